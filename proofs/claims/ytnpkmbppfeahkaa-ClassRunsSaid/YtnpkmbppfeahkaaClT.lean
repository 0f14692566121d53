/- What runs and Runs of layer 4 (class) return: the rows of bytes of one class, in their order, as a new slice. Condition: texts of at most a million bytes. -/
import Derived.Deep.AppendLies
import Derived.Maps.AppendAt
import Derived.Test.YtnpkmbppfeahkaaClC
namespace Go.Proofs.Ytnpkmbppfeahkaa
open Go.RowKit Go.Shelf
set_option linter.unusedVariables false
attribute [local go_sem] Oper.semAt_some

/-- A row of bytes of one class: its class, where it begins and ends. -/
structure Rn where
  c : Int
  f : Int
  t : Int
def Rn.zero : Rn := ⟨0, 0, 0⟩
def Rn.cells (x : Rn) : List Value := [.int .i64 x.c, .int .i64 x.f, .int .i64 x.t]
def rcells (l : List Rn) : List Value := l.flatMap Rn.cells
theorem rcells_append (a b : List Rn) : rcells (a ++ b) = rcells a ++ rcells b := by simp [rcells]

/-- These rows tile the text's first k bytes. -/
inductive Til (s : ByteArray) : List Rn → Nat → Prop
  | nil : Til s [] 0
  | snoc {l : List Rn} {a : Nat} : Til s l a → a < s.size → Til s (l ++ [⟨(cl s a : Nat), (a : Nat), (a : Int) + (rowN s a (cl s a) : Nat)⟩]) (a + rowN s a (cl s a))

theorem rowN_pos {s : ByteArray} {a : Nat} (h : a < s.size) : 0 < rowN s a (cl s a) := by
  unfold rowN
  rcases Nat.eq_zero_or_pos (lead (fun i => decide (cl s (a + i) = cl s a)) (s.size - a)) with g | g
  · have := lead_stop (fun i => decide (cl s (a + i) = cl s a)) (z := s.size - a) (by omega)
    rw [g] at this
    simp at this
  · exact g
theorem Til.le {s : ByteArray} {l : List Rn} {k : Nat} (h : Til s l k) : k ≤ s.size := by
  induction h with
  | nil => exact Nat.zero_le _
  | @snoc l a _ hl _ => have := rowN_le s a (cl s a); omega
theorem Til.len {s : ByteArray} {l : List Rn} {k : Nat} (h : Til s l k) : l.length ≤ k := by
  induction h with
  | nil => exact Nat.le_refl _
  | snoc _ hl ih => have := rowN_pos hl; simp; omega

/-- A block is as it was. -/
def SameK (B : Nat) (W W' : World) : Prop := W'.heap[B]? = W.heap[B]?
theorem sameK_t {B : Nat} {X Y Z : World} (h : SameK B X Y) (k : SameK B Y Z) : SameK B X Z := k.trans h
theorem sameK_b {B : Nat} {w : World} (hB : B < w.heap.size) (W : World) (l : Nat) (o o' : Obj) (hl : w.heap.size ≤ l) (h : W.heap[l]? = some o) (_ : o.isCells = false) (_ : o.isWalk = false) : SameK B W (W.putObj l o') :=
  (grownBy_putObj' W l o').block B (by have := (Array.getElem?_eq_some_iff.1 h).1; omega) (fun e => by cases e; omega)

def RuRel (s : ByteArray) (Bn : Nat) (W : World) (J : List Rn → World → Prop) (v : Value) (wr : World) : Prop :=
  ∃ k : Nat, ∃ pre : List Rn, v = .int .i64 k ∧ Til s pre k ∧ J pre wr ∧ SameK Bn W wr

set_option maxRecDepth 100000 in
set_option maxHeartbeats 2000000 in
theorem runs1_in (F : Fence) (n : Nat) (h7 : F.fn 44) (h8 : F.fn 10) (h9 : F.fn 35) (hro : F.round = none) (hn : 1 ≤ n)
    (hof : ∀ (c : Nat) (w : World), CallsIn F (n - 1) Try.prog 10 #[.int .u8 c] w fun e w' => e = .returned (.int .i64 (cls c : Nat)) ∧ w' = w)
    (hrow : ∀ (s : ByteArray) (a : Int) (d : Nat) (w : World), s.size ≤ 1000000 → CallsIn F (n - 1) Try.prog 35 #[.string s, .int .i64 a, .int .i64 d] w fun e w' => e = .returned (.int .i64 (atV s a (fun k => rowN s k d))) ∧ w' = w.alloc (.cells #[.int .i64 d] 3))
    (l Bn : Nat) (s : ByteArray) (hs : s.size ≤ 1000000) (J Jx : List Rn → World → Prop)
    (hJ : ∀ pre W o, J pre W → J pre (W.alloc o))
    (hY : ∀ pre (x : Rn) W, J pre W → pre.length < s.size → YieldAt F (n - 1) Try.prog l #[.agg #[.int .i64 x.c, .int .i64 x.f, .int .i64 x.t]] W fun e W' =>
      (e = .returned (.bool true) ∧ J (pre ++ [x]) W' ∧ SameK Bn W W') ∨ (e = .returned (.bool false) ∧ Jx (pre ++ [x]) W'))
    (W : World) (hBs : Blk W Bn #[.string s] 9) (h0 : J [] W) :
    CallsIn F n Try.prog 44 #[.func (.yield l) #[] #[], .pointer (some ⟨Bn, 0, none⟩)] W fun e W' => (∃ v, e = .returned v) ∧
      ((∃ ys, Til s ys s.size ∧ J ys W') ∨ (∃ pre, True ∧ Jx pre W')) := by
  have HOF := Lib.hid hof
  have HROW := Lib.hid hrow
  have HBS := Lib.hid hBs
  have hbc := hBs.cell 0
  have HJ := Lib.hid hJ
  clear hof hrow hBs hJ
  refine callsIn_of_wp Try.func44 rfl h7 ?_ hro
  simp only [Try.ntmps44, List.size_toArray, List.length_cons, List.length_nil, Nat.reduceAdd, Nat.reduceSub, Array.replicate_succ, Array.replicate_zero, List.push_toArray, List.append_toArray, List.nil_append, List.cons_append]
  gi_wp2
  gi_loopw [3] (fun v wr => RuRel s Bn W J v wr) (fun v _ => s.size - (intOf v).toNat)
  case atStart => exact ⟨0, [], rfl, Til.nil, h0, rfl⟩
  case round =>
    obtain ⟨k, pre, rfl, hT, hJs, hnx⟩ := hrel
    clear hbc
    have hblk : Blk wr Bn #[.string s] 9 := Eq.trans hnx HBS.out
    have hcs := hblk.cell 0
    have HNX := Lib.hid hnx
    have HBL := Lib.hid hblk
    have hk := hT.le
    clear hnx hblk
    by_cases hlt : k < s.size
    · have hlt2 : (k : Int) < s.size := by omega
      obtain ⟨c, hc⟩ : ∃ c, cl s k = c := ⟨_, rfl⟩
      have e1 : cls s[k].toNat = c := by rw [← hc]; unfold cl; rw [bt_eq hlt]
      obtain ⟨m, hm⟩ : ∃ m, rowN s k c = m := ⟨_, rfl⟩
      have e2 : atV s k (fun a => rowN s a c) = (m : Nat) := by
        unfold atV; rw [if_pos ⟨by omega, hlt2⟩]; simp [hm]
      have hm1 : 0 < m := by rw [← hm, ← hc]; exact rowN_pos hlt
      have hm2 : k + m ≤ s.size := by have := rowN_le s k c; omega
      have ho := HOF.out s[k].toNat
      rw [e1] at ho
      have hr := fun w => HROW.out s k c w hs
      simp only [e2] at hr
      have HO := Lib.hid ho
      have HR := Lib.hid hr
      have hjs2 := HJ.out pre wr (.cells #[.int .i64 c] 3) hJs
      obtain ⟨fn, tmps, assign, body, hy, hR⟩ := hY pre ⟨c, k, (k : Int) + m⟩ _ hjs2 (by have := hT.len; omega)
      have hT2 := Til.snoc hT hlt
      rw [hc, hm] at hT2
      have HT := Lib.hid hT2
      clear ho hr e1 e2 hc hm hT2
      dsimp only at hy
      gi_wp2_with fail
      refine (HO.out _).mono ?_
      rintro e w2 ⟨rfl, rfl⟩
      gi_wp2_with fail
      refine (HR.out _).mono ?_
      rintro e w2 ⟨rfl, rfl⟩
      gi_wp2
      refine hR.mono ?_
      rintro e W3 (⟨rfl, hJ3, hk3⟩ | ⟨rfl, hJx3⟩)
      · gi_wp2
        go_roundw
        case rel => exact ⟨k + m, _, by simp, HT.out, hJ3, sameK_t HNX.out (sameK_t (Below.heap_alloc _ _ Bn HBL.out.lt) hk3)⟩
        case measure => simp [intOf]; omega
      · gi_wp2
        refine bodyPost_ret (results_none rfl _ _ _) rfl ?_
        exact ⟨⟨_, rfl⟩, .inr ⟨_, trivial, hJx3⟩⟩
    · obtain rfl : k = s.size := by omega
      gi_wp2
      go_end0
      exact ⟨⟨_, rfl⟩, .inl ⟨_, hT, hJs⟩⟩

theorem runs_in (F : Fence) (n : Nat) (h5 : F.fn 39) (hro : F.round = none) (s : ByteArray) (w : World) :
    CallsIn F n Try.prog 39 #[.string s] w fun e w' => e = .returned (.func (.func 44) #[] #[.pointer (some ⟨w.heap.size, 0, none⟩)]) ∧ w' = w.alloc (.cells #[.string s] 9) := by
  refine callsIn_of_wp Try.func39 rfl h5 ?_ hro
  simp only [Try.ntmps39, List.size_toArray, List.length_cons, List.length_nil, Nat.reduceAdd, Nat.reduceSub, Array.replicate_succ, Array.replicate_zero, List.push_toArray, List.append_toArray, List.nil_append, List.cons_append]
  gi_wp2
  go_ret
  exact ⟨rfl, rfl⟩

theorem runs_stops (n : Nat) (hn : 1 ≤ n) (Bn : Nat) (s : ByteArray) (hs : s.size ≤ 1000000) (w : World) (hc : Blk w Bn #[.string s] 9) :
    SeqStopsK Fence.wide n Try.prog 44 #[.pointer (some ⟨Bn, 0, none⟩)] (fun x : Rn => #[Value.agg #[.int .i64 x.c, .int .i64 x.f, .int .i64 x.t]]) (SameK Bn) (fun ys => Til s ys s.size) (fun pre => True) s.size w := fun l J Jx W hW hJA _ hY h0 =>
  runs1_in Fence.wide n trivial trivial trivial rfl hn (fun c w => callsIn_wide.2 (of_any c w)) (fun s a d w h => callsIn_wide.2 (row_any s a d w h)) l Bn s hs J Jx
    (fun pre X o hj => hJA pre X _ none hj (World.grownBy_alloc X o none) (fun r e => by cases e)) hY W (hc.below hW) h0

theorem infoR : (Try.prog.info? 35).map (fun i => (i.zero, i.size, i.bytes)) = some (some (.agg #[.int .i64 0, .int .i64 0, .int .i64 0]), 3, 24) := by kernel_rfl

set_option maxRecDepth 100000 in
set_option maxHeartbeats 4000000 in
theorem runsAll_in (n : Nat) (hn : 3 ≤ n) (s : ByteArray) (hs : s.size ≤ 1000000) (w : World) :
    CallsIn Fence.wide n Try.prog 29 #[.string s] w fun e W' => ∃ v l, e = .returned v ∧ Til s l s.size ∧ W'.ownsRow w.heap.size 35 3 v l.length (rcells l) ∧ Below w.heap.size w W' := by
  have h1 : 1 ≤ n := by omega
  have h39 : Fence.wide.fn 39 := trivial
  have h44 : Fence.wide.fn 44 := trivial
  have hro : Fence.wide.round = none := rfl
  obtain ⟨i0, hi, hz0, hz1, hz2⟩ := info_parts infoR
  refine callsIn_of_wp_marks Try.func29 rfl trivial ?_ hro
  simp only [Try.ntmps29, List.size_toArray, List.length_cons, List.length_nil, Nat.reduceAdd, Nat.reduceSub, Array.replicate_succ, Array.replicate_zero, List.push_toArray, List.append_toArray, List.nil_append, List.cons_append]
  gi_wp2_with (gi_at_call 39; refine (runs_in Fence.wide (n - 1) h39 hro _ _).mono ?_; rintro e w' ⟨rfl, rfl⟩)
  have bO := Boxed.new w 32 (.slice none 0 0)
  have hB0 : Below w.heap.size w (w.alloc (.cells #[.slice none 0 0] 32)) := (Below.refl _ w).alloc (Nat.le_refl _) _
  have hB1 : Below w.heap.size w ((w.alloc (.cells #[.slice none 0 0] 32)).alloc (.cells #[.string s] 9)) := hB0.alloc (by simp) _
  have bO1 := bO.alloc (.cells #[.string s] 9)
  have bS := Boxed.new (w.alloc (.cells #[.slice none 0 0] 32)) 9 (.string s)
  have kS := Blk.new (w.alloc (.cells #[.slice none 0 0] 32)) #[.string s] 9
  rw [World.size_alloc] at bS kS
  obtain ⟨W0, hW0⟩ : ∃ W0, (w.alloc (.cells #[.slice none 0 0] 32)).alloc (.cells #[.string s] 9) = W0 := ⟨_, rfl⟩
  have hsz : W0.heap.size = w.heap.size + 2 := by rw [← hW0]; simp
  rw [hW0] at bO1 bS kS hB1 ⊢
  clear bO hB0 hW0
  have Hsz := Lib.hid hsz
  have hsl : w.heap.size + 1 < W0.heap.size := by omega
  clear hsz
  refine wpIn_rangeFunc_ownH hro h1 (gf := 44) (lb := #[.pointer (some ⟨w.heap.size + 1, 0, none⟩)]) rfl h44 (enters_of Try.func44 (by kernel_rfl) rfl)
    (runs_stops (n - 1) (by omega) (w.heap.size + 1) s hs W0 kS) sameK_t (sameK_b hsl) (Below.refl _ _) (fun _ => rfl)
    (fun pre W => (∃ v, Boxed W w.heap.size 32 v ∧ W.ownsRow w.heap.size 35 3 v pre.length (rcells pre) ∧ True) ∧ Boxed W (w.heap.size + 1) 9 (.string s) ∧ Below w.heap.size w W)
    (fun _ _ _ => False)
    (OwnFrom.and (Own.from (holdsRow_own w.heap.size w.heap.size 32 35 3 (fun (pre : List Rn) => pre.length) (fun pre => rcells pre) (fun pre v => True)) _) (OwnFrom.and (Own.from (boxed_own (w.heap.size + 1) 9 (fun _ => .string s)) _) (ownFrom_below (Nat.le_refl _) (by omega))))
    (fun _ _ _ _ _ hs _ _ => hs)
    ⟨⟨_, bO1, World.ownsRow_nil _ _ _ _, trivial⟩, bS, hB1⟩
    (fun x a' W => ∃ Bx, w.heap.size + 1 < Bx ∧ W.heap[Bx]? = some (.cells #[.int .i64 x.c, .int .i64 x.f, .int .i64 x.t] 35 (0, 0)) ∧ a' = { tmps := #[.string s, undef, .slice none 0 0, .pointer (some ⟨w.heap.size, 0, none⟩), .pointer (some ⟨Bx, 0, none⟩), .string s, .func (.func 44) #[] #[.pointer (some ⟨w.heap.size + 1, 0, none⟩)], .agg #[.int .i64 x.c, .int .i64 x.f, .int .i64 x.t], undef, undef, undef, undef, undef], defers := [] })
    (fun x a' _ X Y row hs hg hr => by
      obtain ⟨Bx, h1, h2, h3⟩ := hs
      refine ⟨Bx, h1, (hg.block Bx (Array.getElem?_eq_some_iff.1 h2).1 (fun e => ?_)).trans h2, h3⟩
      obtain ⟨o, ho, hoc⟩ := (hr Bx e.symm).2
      rw [h2] at ho; cases ho; cases hoc)
    ?assign ?body ?done ?stop
  case assign =>
    rintro l pre x W K ⟨⟨v, hv, hrow, hnil⟩, hS, hB⟩ hK
    gi_wp2
    refine hK _ _ ((KeepsOthers.alloc _ _).from _) (Below.heap_alloc W _ _ hS.lt) ⟨⟨v, hv.alloc _, hrow.alloc _, trivial⟩, hS.alloc _, hB.alloc hB.size _⟩ ⟨W.heap.size, hS.lt, World.alloc_heap_new W _, rfl⟩
  case body =>
    rintro l pre x a' W hl ⟨r, hr⟩ ⟨⟨v, hv, hrow, hnil⟩, hS, hB⟩ ⟨Bx, hBx, bX, rfl⟩ hlt
    have hc := hv.cell
    have x0 := cell_of_row W Bx 0 _ _ _ bX
    have x1 := cell_of_row W Bx 1 _ _ _ bX
    have x2 := cell_of_row W Bx 2 _ _ _ bX
    simp at x0 x1 x2
    gi_wp2_with (gi_at_builtin; refine wpListIn_append_own _ rfl _ _ 32 rfl w.heap.size 35 i0 _ 3 24 Try.underlying32 hi hz0 hz1 hz2 rfl (by decide) _ _ _ rfl (hrow.alloc _) ⟨W.heap.size, 0, none⟩ 1 1 x.cells rfl rfl (World.news_of_block (cs := #[.int .i64 x.c, .int .i64 x.f, .int .i64 x.t]) (t := 35) (fr := (0, 0)) (World.alloc_heap_new W _)) (by simp [Rn.cells, Value.oneCell']) (by unfold maxLen; omega) (by omega) (by have := hB.size; simp; omega) ?_; intro v' w1 hown' hgrow _; obtain ⟨g', cap', rfl⟩ := ownsRow_succ hown'; obtain ⟨hv1, hv2, hr2, hk2, hb2⟩ := hv.appended (by decide) hrow hB.size (Nat.le_refl _) hown' hgrow; have hc1 := hv1.cell; have hf1 := hv1.frozen)
    have hS2 := ((hS.alloc (.cells #[.int .i64 x.c, .int .i64 x.f, .int .i64 x.t] 35)).kept hgrow (hS.not_row (by decide) hrow)).other (B' := w.heap.size) (by omega) (.slice (some ⟨g', 0, none⟩) (pre.length + 1) cap')
    exact ⟨hk2.from _, Eq.trans hS2 (Eq.symm hS), ⟨_, hv2, by rw [rcells_append]; simpa [rcells] using hr2, trivial⟩, hS2, hB.trans hb2⟩
  case done =>
    rintro D ys W hD hT ⟨⟨v, hv, hrow, hnil⟩, hS, hB⟩ hK
    have hc := hv.cell
    gi_wp2
    refine ⟨by simp, .inl ⟨_, _, rfl, run_takeDeferred hK, ?_⟩⟩
    exact ⟨_, results_tmp rfl _ _ _, v, ys, rfl, hT, ownsRow_putObj hrow _ hK rfl, hB.trans (belowK_b (w := w) (Nat.le_refl _) W D _ _ (by omega) hK rfl rfl)⟩
  case stop =>
    rintro D c pre W _ _ h _
    exact h.elim
theorem runs_any (s : ByteArray) (hs : s.size ≤ 1000000) (w : World) :
    Calls Try.prog 29 #[.string s] w fun e W' => ∃ v l, e = .returned v ∧ Til s l s.size ∧ W'.ownsRow w.heap.size 35 3 v l.length (rcells l) ∧ Below w.heap.size w W' :=
  (callsIn_wide (n := 3)).1 (runsAll_in 3 (Nat.le_refl _) s hs w)
end Go.Proofs.Ytnpkmbppfeahkaa

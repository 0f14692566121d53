/- What the generic functions told and list of layer 2 (undo) do with steps: the slice of all that a slice of steps tells: a new row of the same steps. Condition: at most a million steps. -/
import Derived.RangeFuncNested
import Derived.Deep.AppendLies
import Derived.Test.YtgdamapocomhkaaUnS
namespace Go.Proofs.Ytgdamapocomhkaa
open Go.RowKit Go.Shelf
set_option linter.unusedVariables false
attribute [local go_sem] Oper.semAt_some

/-- A step: an edit, and where the cursor was ahead of it and behind. -/
structure St where
  pos : Int
  del : ByteArray
  ins : ByteArray
  ahead : Int
  behind : Int
deriving DecidableEq
def St.zero : St := ⟨0, ⟨#[]⟩, ⟨#[]⟩, 0, 0⟩
def St.val (s : St) : Value := .agg #[.int .i64 s.pos, .string s.del, .string s.ins, .int .i64 s.ahead, .int .i64 s.behind]
def St.cells (s : St) : List Value := [.int .i64 s.pos, .string s.del, .string s.ins, .int .i64 s.ahead, .int .i64 s.behind]
def cellsOf (l : List St) : List Value := l.flatMap St.cells
theorem cellsOf_append (a b : List St) : cellsOf (a ++ b) = cellsOf a ++ cellsOf b := by simp [cellsOf]
theorem cellsOf_length (l : List St) : (cellsOf l).length = l.length * 5 := by
  induction l with
  | nil => rfl
  | cons x l ih => simp [cellsOf, St.cells] at ih ⊢; omega
theorem cellsOf_at (l : List St) (j i : Nat) (hj : j < l.length) (hi : i < 5) : (cellsOf l)[j * 5 + i]? = (l[j]).cells[i]? := by
  induction l generalizing j with
  | nil => simp at hj
  | cons x l ih =>
    have e : cellsOf (x :: l) = x.cells ++ cellsOf l := by simp [cellsOf]
    have h5 : x.cells.length = 5 := rfl
    rw [e]
    cases j with
    | zero => rw [List.getElem?_append_left (by omega)]; simp
    | succ j =>
      rw [List.getElem?_append_right (by omega)]
      have : (j + 1) * 5 + i - x.cells.length = j * 5 + i := by omega
      rw [this]
      simpa using ih j (by simpa using hj)

/-- The step s lies in block b from o on. -/
def StepAt (W : World) (b o : Nat) (s : St) : Prop :=
  W.cell? ⟨b, o, none⟩ = some (.int .i64 s.pos) ∧ W.cell? ⟨b, o + 1, none⟩ = some (.string s.del) ∧ W.cell? ⟨b, o + 2, none⟩ = some (.string s.ins) ∧ W.cell? ⟨b, o + 3, none⟩ = some (.int .i64 s.ahead) ∧ W.cell? ⟨b, o + 4, none⟩ = some (.int .i64 s.behind)
theorem StepAt.of_block {A B : World} {b o : Nat} {s : St} (h : StepAt A b o s) (hb : B.heap[b]? = A.heap[b]?) : StepAt B b o s := by
  have e : ∀ p : Addr, p.block = b → B.cell? p = A.cell? p := fun p hp => World.cell?_of_block (by rw [hp]; exact hb)
  exact ⟨(e _ rfl).trans h.1, (e _ rfl).trans h.2.1, (e _ rfl).trans h.2.2.1, (e _ rfl).trans h.2.2.2.1, (e _ rfl).trans h.2.2.2.2⟩
theorem StepAt.below {n₀ : Nat} {A B : World} (hB : Below n₀ A B) {b o : Nat} {s : St} (hb : b < n₀) (h : StepAt A b o s) : StepAt B b o s :=
  ⟨(hB.cell (p := ⟨b, _, none⟩) hb).trans h.1, (hB.cell (p := ⟨b, _, none⟩) hb).trans h.2.1, (hB.cell (p := ⟨b, _, none⟩) hb).trans h.2.2.1, (hB.cell (p := ⟨b, _, none⟩) hb).trans h.2.2.2.1, (hB.cell (p := ⟨b, _, none⟩) hb).trans h.2.2.2.2⟩

set_option maxRecDepth 100000 in
set_option maxHeartbeats 2000000 in
theorem told1T_in (F : Fence) (n : Nat) (h7 : F.fn 31) (hro : F.round = none) (hn : 1 ≤ n) (l Bn n₀ b off len cap : Nat) (zs : List St) (hreach : len ≤ 1000000) (hb : b < n₀) (J Jx : List St → World → Prop)
    (hJ : ∀ pre W o, n₀ ≤ W.heap.size → J pre W → J pre (W.alloc o))
    (hY : ∀ pre (x : St) W, J pre W → pre.length < len → YieldAt F (n - 1) Try.prog l #[.agg #[.int .i64 x.pos, .string x.del, .string x.ins, .int .i64 x.ahead, .int .i64 x.behind]] W fun e W' =>
      (e = .returned (.bool true) ∧ J (pre ++ [x]) W' ∧ Below n₀ W W') ∨ (e = .returned (.bool false) ∧ Jx (pre ++ [x]) W'))
    (W : World) (hn₀ : n₀ ≤ W.heap.size) (hBs : W.cell? ⟨Bn, 0, none⟩ = some (.slice (some ⟨b, off, none⟩) len cap)) (hc : ∀ j, j < len → StepAt W b (off + j * 5) (zs[j]?.getD St.zero)) (h0 : J [] W) :
    CallsIn F n Try.prog 31 #[.func (.yield l) #[] #[], .pointer (some ⟨Bn, 0, none⟩)] W fun e W' => (∃ v, e = .returned v) ∧
      ((∃ ys, ys = upto (fun j => zs[j]?.getD St.zero) len ∧ J ys W') ∨ (∃ pre, (∃ k, k ≤ len ∧ pre = upto (fun j => zs[j]?.getD St.zero) k) ∧ Jx pre W')) := by
  refine callsIn_of_wp Try.func31 rfl h7 ?_ hro
  simp only [Try.ntmps31, List.size_toArray, List.length_cons, List.length_nil, Nat.reduceAdd, Nat.reduceSub, Array.replicate_succ, Array.replicate_zero, List.push_toArray, List.append_toArray, List.nil_append, List.cons_append]
  gi_wp2
  gi_loopw [7] (fun i wr => ∃ k : Nat, k ≤ len ∧ i = .int .i64 k ∧ J (upto (fun j => zs[j]?.getD St.zero) k) wr ∧ Below n₀ W wr)
    (fun i _ => len - (intOf i).toNat)
  case atStart => exact ⟨0, Nat.zero_le _, rfl, h0, Below.refl _ _⟩
  case round =>
    obtain ⟨k, hk, rfl, hJs, hnx⟩ := hrel
    by_cases hlt : k < len
    · have hst := StepAt.below hnx hb (hc k hlt)
      have hsz := hnx.size
      obtain ⟨x, hx⟩ : ∃ x, zs[k]?.getD St.zero = x := ⟨_, rfl⟩
      rw [hx] at hst
      obtain ⟨c0, c1, c2, c3, c4⟩ := hst
      obtain ⟨fn, tmps, assign, body, hy, hR⟩ := hY _ x _ (hJ _ wr (.cells #[.int .i64 x.pos, .string x.del, .string x.ins, .int .i64 x.ahead, .int .i64 x.behind] 31) (by omega) hJs) (by rw [upto_length]; exact hlt)
      gi_wp2
      refine hR.mono ?_
      have hcell : ∀ (o : Obj) (W3 : World), Below n₀ (wr.alloc o) W3 → Below n₀ W W3 := fun o W3 h => hnx.trans (((Below.refl n₀ wr).alloc (by omega) o).trans h)
      rintro e W3 (⟨rfl, hJ3, hk3⟩ | ⟨rfl, hJx3⟩)
      · gi_wp2
        go_roundw
        case rel => exact ⟨k + 1, by omega, by simp, by rw [upto_succ, hx]; exact hJ3, hcell _ _ hk3⟩
        case measure => simp [intOf]; omega
      · gi_wp2
        refine bodyPost_ret (results_none rfl _ _ _) rfl ?_
        exact ⟨⟨_, rfl⟩, .inr ⟨_, ⟨k + 1, by omega, by rw [upto_succ, hx]⟩, hJx3⟩⟩
    · obtain rfl : k = len := by omega
      gi_wp2
      go_end0
      exact ⟨⟨_, rfl⟩, .inl ⟨_, rfl, hJs⟩⟩
set_option maxHeartbeats 1000000 in
theorem toldT_in (F : Fence) (n : Nat) (h5 : F.fn 27) (hro : F.round = none) (a : Option Addr) (len cap : Nat) (w : World) :
    CallsIn F n Try.prog 27 #[.slice a len cap] w fun e w' => e = .returned (.func (.func 31) #[] #[.pointer (some ⟨w.heap.size, 0, none⟩)]) ∧ w' = w.alloc (.cells #[.slice a len cap] 27) := by
  refine callsIn_of_wp Try.func27 rfl h5 ?_ hro
  simp only [Try.ntmps27, List.size_toArray, List.length_cons, List.length_nil, Nat.reduceAdd, Nat.reduceSub, Array.replicate_succ, Array.replicate_zero, List.push_toArray, List.append_toArray, List.nil_append, List.cons_append]
  gi_wp2
  go_ret
  exact ⟨rfl, rfl⟩

set_option maxRecDepth 100000 in
set_option maxHeartbeats 1000000 in
theorem told1T_nil_in (F : Fence) (n : Nat) (h7 : F.fn 31) (hro : F.round = none) (l Bn : Nat) (J : List St → World → Prop) (W : World) (hBs : W.cell? ⟨Bn, 0, none⟩ = some (.slice none 0 0)) (h0 : J [] W) :
    CallsIn F n Try.prog 31 #[.func (.yield l) #[] #[], .pointer (some ⟨Bn, 0, none⟩)] W fun e W' => (∃ v, e = .returned v) ∧ J [] W' := by
  refine callsIn_of_wp Try.func31 rfl h7 ?_ hro
  simp only [Try.ntmps31, List.size_toArray, List.length_cons, List.length_nil, Nat.reduceAdd, Nat.reduceSub, Array.replicate_succ, Array.replicate_zero, List.push_toArray, List.append_toArray, List.nil_append, List.cons_append]
  gi_wp2
  gi_loopw [7] (fun i wr => i = .int .i64 0 ∧ J [] wr) (fun _ _ => 0)
  case atStart => exact ⟨rfl, h0⟩
  case round =>
    obtain ⟨rfl, hJs⟩ := hrel
    gi_wp2
    go_end0
    exact ⟨⟨_, rfl⟩, hJs⟩

/-- The slice value sv reads as the steps zs, in a block below n₀; or it is nil and there are none. -/
def Reads (n₀ : Nat) (W : World) (sv : Value) (zs : List St) : Prop :=
  (sv = .slice none 0 0 ∧ zs = []) ∨ ∃ b off cap, sv = .slice (some ⟨b, off, none⟩) zs.length cap ∧ b < n₀ ∧ zs.length ≤ cap ∧ ∀ j, j < zs.length → StepAt W b (off + j * 5) (zs[j]?.getD St.zero)
theorem Reads.below {n₀ : Nat} {A B : World} (h : Below n₀ A B) {sv : Value} {zs : List St} : Reads n₀ A sv zs → Reads n₀ B sv zs
  | .inl e => .inl e
  | .inr ⟨b, off, cap, e, hb, hlc, hc⟩ => .inr ⟨b, off, cap, e, hb, hlc, fun j hj => (hc j hj).below h hb⟩

theorem toldT_stops (F : Fence) (n : Nat) (h7 : F.fn 31) (hro : F.round = none) (hn : 1 ≤ n) (Bn n₀ : Nat) (sv : Value) (zs : List St) (hreach : zs.length ≤ 1000000) (w : World) (hBs : Bn < w.heap.size) (hn₀ : n₀ ≤ w.heap.size)
    (hc : w.cell? ⟨Bn, 0, none⟩ = some sv) (hI : Reads n₀ w sv zs) :
    SeqStopsK F n Try.prog 31 #[.pointer (some ⟨Bn, 0, none⟩)] (fun x : St => #[Value.agg #[.int .i64 x.pos, .string x.del, .string x.ins, .int .i64 x.ahead, .int .i64 x.behind]]) (Below n₀) (fun ys => ys = zs) (fun pre => pre <+: zs) zs.length w := fun l J Jx W hW hJA _ hY h0 => by
  have hc' := (hW.cell (p := ⟨Bn, 0, none⟩) hBs).trans hc
  rcases hI.below (hW.mono hn₀) with ⟨rfl, rfl⟩ | ⟨b, off, cap, rfl, hb, hlc, hcs⟩
  · exact (told1T_nil_in F n h7 hro l Bn J W hc' h0).mono fun e W' ⟨he, hj⟩ => ⟨he, .inl ⟨_, rfl, hj⟩⟩
  · refine (told1T_in F n h7 hro hn l Bn n₀ b off zs.length cap zs hreach hb J Jx (fun pre X o _ hj => hJA pre X _ none hj (World.grownBy_alloc X o none) (fun r e => by cases e)) hY W (Nat.le_trans hn₀ hW.size) hc' hcs h0).mono ?_
    rintro e W' ⟨he, ⟨ys, rfl, hj⟩ | ⟨pre, ⟨k, hk, rfl⟩, hj⟩⟩
    · exact ⟨he, .inl ⟨_, upto_all _ zs, hj⟩⟩
    · exact ⟨he, .inr ⟨_, by rw [upto_take _ zs hk]; exact List.take_prefix _ _, hj⟩⟩

theorem infoT : (Try.prog.info? 31).map (fun i => (i.zero, i.size, i.bytes)) = some (some (.agg #[.int .i64 0, .string ⟨#[]⟩, .string ⟨#[]⟩, .int .i64 0, .int .i64 0]), 5, 56) := by kernel_rfl

set_option maxRecDepth 100000 in
set_option maxHeartbeats 4000000 in
theorem listT_in (F : Fence) (n : Nat) (h3 : F.fn 26) (h5 : F.fn 31) (hro : F.round = none) (hn : 3 ≤ n) (Bn : Nat) (sv : Value) (zs : List St) (hlen : zs.length ≤ 1000000) (w : World)
    (hBs : Bn < w.heap.size) (hc : w.cell? ⟨Bn, 0, none⟩ = some sv) (hI : Reads w.heap.size w sv zs) :
    CallsIn F n Try.prog 26 #[.func (.func 31) #[] #[.pointer (some ⟨Bn, 0, none⟩)]] w fun e W' => ∃ v, e = .returned v ∧ W'.ownsRow w.heap.size 31 5 v zs.length (cellsOf zs) ∧ Below w.heap.size w W' := by
  have h1 : 1 ≤ n := by omega
  have hml : zs.length ≤ maxLen := by unfold maxLen; omega
  obtain ⟨i0, hi, hz0, hz1, hz2⟩ := info_parts infoT
  refine callsIn_of_wp_marks Try.func26 rfl h3 ?_ hro
  simp only [Try.ntmps26, List.size_toArray, List.length_cons, List.length_nil, Nat.reduceAdd, Nat.reduceSub, Array.replicate_succ, Array.replicate_zero, List.push_toArray, List.append_toArray, List.nil_append, List.cons_append]
  gi_wp2
  have bO := Boxed.new w 27 (.slice none 0 0)
  have hB0 : Below w.heap.size w (w.alloc (.cells #[.slice none 0 0] 27)) := (Below.refl _ w).alloc (Nat.le_refl _) _
  obtain ⟨W0, hW0⟩ : ∃ W0, w.alloc (.cells #[.slice none 0 0] 27) = W0 := ⟨_, rfl⟩
  have hsz : W0.heap.size = w.heap.size + 1 := by rw [← hW0]; simp
  rw [hW0] at bO hB0 ⊢
  clear hW0
  refine wpIn_rangeFunc_ownH hro h1 (gf := 31) (lb := #[.pointer (some ⟨Bn, 0, none⟩)]) rfl h5 (enters_of Try.func31 (by kernel_rfl) rfl)
    (toldT_stops F (n - 1) h5 hro (by omega) Bn w.heap.size sv zs hlen W0 (by omega) (by omega) ((hB0.cell (p := ⟨Bn, 0, none⟩) hBs).trans hc) (hI.below hB0)) belowK_t (belowK_b (by omega)) (Below.refl _ _) (fun _ => rfl)
    (fun pre W => (∃ v, Boxed W w.heap.size 27 v ∧ W.ownsRow w.heap.size 31 5 v pre.length (cellsOf pre) ∧ True) ∧ Below w.heap.size w W)
    (fun _ _ _ => False)
    (OwnFrom.and (Own.from (holdsRow_own w.heap.size w.heap.size 27 31 5 (fun (pre : List St) => pre.length) (fun pre => cellsOf pre) (fun pre v => True)) _) (ownFrom_below (Nat.le_refl _) (by omega)))
    (fun _ _ _ _ _ hs _ _ => hs)
    ⟨⟨_, bO, World.ownsRow_nil _ _ _ _, trivial⟩, hB0⟩
    (fun x a' W => ∃ Bx, w.heap.size < Bx ∧ W.heap[Bx]? = some (.cells #[.int .i64 x.pos, .string x.del, .string x.ins, .int .i64 x.ahead, .int .i64 x.behind] 31 (0, 0)) ∧ a' = { tmps := #[.func (.func 31) #[] #[.pointer (some ⟨Bn, 0, none⟩)], undef, .slice none 0 0, .pointer (some ⟨w.heap.size, 0, none⟩), .pointer (some ⟨Bx, 0, none⟩), .func (.func 31) #[] #[.pointer (some ⟨Bn, 0, none⟩)], .agg #[.int .i64 x.pos, .string x.del, .string x.ins, .int .i64 x.ahead, .int .i64 x.behind], undef, undef, undef, undef, undef], defers := [] })
    (fun x a' _ X Y row hs hg hr => by
      obtain ⟨Bx, h1, h2, h3⟩ := hs
      refine ⟨Bx, h1, (hg.block Bx (Array.getElem?_eq_some_iff.1 h2).1 (fun e => ?_)).trans h2, h3⟩
      obtain ⟨o, ho, hoc⟩ := (hr Bx e.symm).2
      rw [h2] at ho; cases ho; cases hoc)
    ?assign ?body ?done ?stop
  case assign =>
    rintro l pre x W K ⟨⟨v, hv, hrow, hnil⟩, hB⟩ hK
    gi_wp2
    refine hK _ _ ((KeepsOthers.alloc _ _).from _) ((Below.refl _ W).alloc hB.size _) ⟨⟨v, hv.alloc _, hrow.alloc _, trivial⟩, hB.alloc hB.size _⟩ ⟨W.heap.size, hv.lt, World.alloc_heap_new W _, rfl⟩
  case body =>
    rintro l pre x a' W hl ⟨r, hr⟩ ⟨⟨v, hv, hrow, hnil⟩, hB⟩ ⟨Bx, hBx, bX, rfl⟩ hlt
    have hc := hv.cell
    have x0 := cell_of_row W Bx 0 _ _ _ bX
    have x1 := cell_of_row W Bx 1 _ _ _ bX
    have x2 := cell_of_row W Bx 2 _ _ _ bX
    have x3 := cell_of_row W Bx 3 _ _ _ bX
    have x4 := cell_of_row W Bx 4 _ _ _ bX
    simp at x0 x1 x2 x3 x4
    gi_wp2_with (gi_at_builtin; refine wpListIn_append_own _ rfl _ _ 27 rfl w.heap.size 31 i0 _ 5 56 Try.underlying27 hi hz0 hz1 hz2 rfl (by decide) _ _ _ rfl (hrow.alloc _) ⟨W.heap.size, 0, none⟩ 1 1 x.cells rfl rfl (World.news_of_block (cs := #[.int .i64 x.pos, .string x.del, .string x.ins, .int .i64 x.ahead, .int .i64 x.behind]) (t := 31) (fr := (0, 0)) (World.alloc_heap_new W _)) (by simp [St.cells, Value.oneCell']) (by omega) (by omega) (by have := hB.size; simp; omega) ?_; intro v' w1 hown' hgrow _; obtain ⟨g', cap', rfl⟩ := ownsRow_succ hown'; obtain ⟨hv1, hv2, hr2, hk2, hb2⟩ := hv.appended (by decide) hrow hB.size (Nat.le_refl _) hown' hgrow; have hc1 := hv1.cell; have hf1 := hv1.frozen)
    exact ⟨hk2.from _, hb2, ⟨_, hv2, by rw [cellsOf_append]; simpa [cellsOf] using hr2, trivial⟩, hB.trans hb2⟩
  case done =>
    rintro D ys W hD rfl ⟨⟨v, hv, hrow, hnil⟩, hB⟩ hK
    have hc := hv.cell
    gi_wp2
    refine ⟨by simp, .inl ⟨_, _, rfl, run_takeDeferred hK, ?_⟩⟩
    exact ⟨_, results_tmp rfl _ _ _, v, rfl, ownsRow_putObj hrow _ hK rfl, hB.trans (belowK_b (w := w) (Nat.le_refl _) W D _ _ (by omega) hK rfl rfl)⟩
  case stop =>
    rintro D c pre W _ _ h _
    exact h.elim
end Go.Proofs.Ytgdamapocomhkaa

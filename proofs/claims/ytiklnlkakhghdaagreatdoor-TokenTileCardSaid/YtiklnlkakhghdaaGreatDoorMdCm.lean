/- What shutting and backward of layer 6 (modes) return. Condition: a mode; at most a thousand frames. -/
import Derived.RangeFuncNested
import Derived.Deep.AppendLies
import Derived.Test.YtiklnlkakhghdaaGreatDoorMdB
import Derived.Test.YtiklnlkakhghdaaGreatDoorMdD
namespace Go.Proofs.YtiklnlkakhghdaaGreatDoor
open Go.RowKit Go.Shelf
set_option linter.unusedVariables false
attribute [local go_sem] Oper.semAt_some

section
variable (w : World)
set_option maxHeartbeats 1000000 in
theorem shut_0 : Calls Tryz.prog 75 #[.int .i64 0] w fun e w' => e = .returned (.string ⟨#[]⟩) ∧ w' = w := by
  go_enter Tryz.func75, Tryz.ntmps75
  go_wp2
  go_ret
  exact ⟨rfl, rfl⟩
set_option maxHeartbeats 1000000 in
theorem shut_1 : Calls Tryz.prog 75 #[.int .i64 1] w fun e w' => e = .returned (.string ⟨#[41]⟩) ∧ w' = w := by
  go_enter Tryz.func75, Tryz.ntmps75
  go_wp2
  go_ret
  exact ⟨rfl, rfl⟩
set_option maxHeartbeats 1000000 in
theorem shut_2 : Calls Tryz.prog 75 #[.int .i64 2] w fun e w' => e = .returned (.string ⟨#[41]⟩) ∧ w' = w := by
  go_enter Tryz.func75, Tryz.ntmps75
  go_wp2
  go_ret
  exact ⟨rfl, rfl⟩
set_option maxHeartbeats 1000000 in
theorem shut_3 : Calls Tryz.prog 75 #[.int .i64 3] w fun e w' => e = .returned (.string ⟨#[41]⟩) ∧ w' = w := by
  go_enter Tryz.func75, Tryz.ntmps75
  go_wp2
  go_ret
  exact ⟨rfl, rfl⟩
set_option maxHeartbeats 1000000 in
theorem shut_4 : Calls Tryz.prog 75 #[.int .i64 4] w fun e w' => e = .returned (.string ⟨#[39]⟩) ∧ w' = w := by
  go_enter Tryz.func75, Tryz.ntmps75
  go_wp2
  go_ret
  exact ⟨rfl, rfl⟩
set_option maxHeartbeats 1000000 in
theorem shut_5 : Calls Tryz.prog 75 #[.int .i64 5] w fun e w' => e = .returned (.string ⟨#[34]⟩) ∧ w' = w := by
  go_enter Tryz.func75, Tryz.ntmps75
  go_wp2
  go_ret
  exact ⟨rfl, rfl⟩
set_option maxHeartbeats 1000000 in
theorem shut_6 : Calls Tryz.prog 75 #[.int .i64 6] w fun e w' => e = .returned (.string ⟨#[96]⟩) ∧ w' = w := by
  go_enter Tryz.func75, Tryz.ntmps75
  go_wp2
  go_ret
  exact ⟨rfl, rfl⟩
set_option maxHeartbeats 1000000 in
theorem shut_7 : Calls Tryz.prog 75 #[.int .i64 7] w fun e w' => e = .returned (.string ⟨#[125]⟩) ∧ w' = w := by
  go_enter Tryz.func75, Tryz.ntmps75
  go_wp2
  go_ret
  exact ⟨rfl, rfl⟩
set_option maxHeartbeats 1000000 in
theorem shut_8 : Calls Tryz.prog 75 #[.int .i64 8] w fun e w' => e = .returned (.string ⟨#[125]⟩) ∧ w' = w := by
  go_enter Tryz.func75, Tryz.ntmps75
  go_wp2
  go_ret
  exact ⟨rfl, rfl⟩
set_option maxHeartbeats 1000000 in
theorem shut_9 : Calls Tryz.prog 75 #[.int .i64 9] w fun e w' => e = .returned (.string ⟨#[41, 41]⟩) ∧ w' = w := by
  go_enter Tryz.func75, Tryz.ntmps75
  go_wp2
  go_ret
  exact ⟨rfl, rfl⟩
set_option maxHeartbeats 1000000 in
theorem shut_10 : Calls Tryz.prog 75 #[.int .i64 10] w fun e w' => e = .returned (.string ⟨#[41]⟩) ∧ w' = w := by
  go_enter Tryz.func75, Tryz.ntmps75
  go_wp2
  go_ret
  exact ⟨rfl, rfl⟩
set_option maxHeartbeats 1000000 in
theorem shut_11 : Calls Tryz.prog 75 #[.int .i64 11] w fun e w' => e = .returned (.string ⟨#[41]⟩) ∧ w' = w := by
  go_enter Tryz.func75, Tryz.ntmps75
  go_wp2
  go_ret
  exact ⟨rfl, rfl⟩
set_option maxHeartbeats 1000000 in
theorem shut_12 : Calls Tryz.prog 75 #[.int .i64 12] w fun e w' => e = .returned (.string ⟨#[]⟩) ∧ w' = w := by
  go_enter Tryz.func75, Tryz.ntmps75
  go_wp2
  go_ret
  exact ⟨rfl, rfl⟩
set_option maxHeartbeats 1000000 in
theorem shut_13 : Calls Tryz.prog 75 #[.int .i64 13] w fun e w' => e = .returned (.string ⟨#[10]⟩) ∧ w' = w := by
  go_enter Tryz.func75, Tryz.ntmps75
  go_wp2
  go_ret
  exact ⟨rfl, rfl⟩
set_option maxHeartbeats 1000000 in
theorem shut_14 : Calls Tryz.prog 75 #[.int .i64 14] w fun e w' => e = .returned (.string ⟨#[10]⟩) ∧ w' = w := by
  go_enter Tryz.func75, Tryz.ntmps75
  go_wp2
  go_ret
  exact ⟨rfl, rfl⟩
set_option maxHeartbeats 1000000 in
theorem shut_big (m : Nat) (hm : 15 ≤ m) : Calls Tryz.prog 75 #[.int .i64 (m : Int)] w fun e w' => e = .returned (.string ⟨#[]⟩) ∧ w' = w := by
  have t0 : ((m : Int) == 0) = false := beq_eq_false_iff_ne.2 (by omega)
  have t1 : ((m : Int) == 1) = false := beq_eq_false_iff_ne.2 (by omega)
  have t2 : ((m : Int) == 2) = false := beq_eq_false_iff_ne.2 (by omega)
  have t3 : ((m : Int) == 3) = false := beq_eq_false_iff_ne.2 (by omega)
  have t4 : ((m : Int) == 4) = false := beq_eq_false_iff_ne.2 (by omega)
  have t5 : ((m : Int) == 5) = false := beq_eq_false_iff_ne.2 (by omega)
  have t6 : ((m : Int) == 6) = false := beq_eq_false_iff_ne.2 (by omega)
  have t7 : ((m : Int) == 7) = false := beq_eq_false_iff_ne.2 (by omega)
  have t8 : ((m : Int) == 8) = false := beq_eq_false_iff_ne.2 (by omega)
  have t9 : ((m : Int) == 9) = false := beq_eq_false_iff_ne.2 (by omega)
  have t10 : ((m : Int) == 10) = false := beq_eq_false_iff_ne.2 (by omega)
  have t11 : ((m : Int) == 11) = false := beq_eq_false_iff_ne.2 (by omega)
  have t12 : ((m : Int) == 12) = false := beq_eq_false_iff_ne.2 (by omega)
  have t13 : ((m : Int) == 13) = false := beq_eq_false_iff_ne.2 (by omega)
  have t14 : ((m : Int) == 14) = false := beq_eq_false_iff_ne.2 (by omega)
  clear hm
  go_enter Tryz.func75, Tryz.ntmps75
  go_wp2
  go_ret
  exact ⟨rfl, rfl⟩
theorem shut_m (m : Nat) : Calls Tryz.prog 75 #[.int .i64 (m : Int)] w fun e w' => e = .returned (.string (closeT (closeB m))) ∧ w' = w := by
  by_cases e0 : m = 0
  · subst e0; exact shut_0 w
  by_cases e1 : m = 1
  · subst e1; exact shut_1 w
  by_cases e2 : m = 2
  · subst e2; exact shut_2 w
  by_cases e3 : m = 3
  · subst e3; exact shut_3 w
  by_cases e4 : m = 4
  · subst e4; exact shut_4 w
  by_cases e5 : m = 5
  · subst e5; exact shut_5 w
  by_cases e6 : m = 6
  · subst e6; exact shut_6 w
  by_cases e7 : m = 7
  · subst e7; exact shut_7 w
  by_cases e8 : m = 8
  · subst e8; exact shut_8 w
  by_cases e9 : m = 9
  · subst e9; exact shut_9 w
  by_cases e10 : m = 10
  · subst e10; exact shut_10 w
  by_cases e11 : m = 11
  · subst e11; exact shut_11 w
  by_cases e12 : m = 12
  · subst e12; exact shut_12 w
  by_cases e13 : m = 13
  · subst e13; exact shut_13 w
  by_cases e14 : m = 14
  · subst e14; exact shut_14 w
  have h15 : 15 ≤ m := by omega
  have e : closeT (closeB m) = ⟨#[]⟩ := by
    unfold closeB
    repeat' (rw [if_neg (by omega)])
    rfl
  rw [e]
  exact shut_big w m h15
end
/-- Two blocks are as they were: the captured slice's, and its frames'. -/
def Keep2 (B g : Nat) (W W' : World) : Prop := W'.heap[B]? = W.heap[B]? ∧ W'.heap[g]? = W.heap[g]?
theorem keep2_t {B g : Nat} {X Y Z : World} (h : Keep2 B g X Y) (k : Keep2 B g Y Z) : Keep2 B g X Z := ⟨k.1.trans h.1, k.2.trans h.2⟩
theorem keep2_r (B g : Nat) (X : World) : Keep2 B g X X := ⟨rfl, rfl⟩
theorem keep2_b {B g : Nat} {w : World} (hB : B < w.heap.size) (hg : g < w.heap.size) (W : World) (l : Nat) (o o' : Obj) (hl : w.heap.size ≤ l) (h : W.heap[l]? = some o) (_ : o.isCells = false) (_ : o.isWalk = false) : Keep2 B g W (W.putObj l o') :=
  ⟨(grownBy_putObj' W l o').block B (by have := (Array.getElem?_eq_some_iff.1 h).1; omega) (fun e => by cases e; omega),
   (grownBy_putObj' W l o').block g (by have := (Array.getElem?_eq_some_iff.1 h).1; omega) (fun e => by cases e; omega)⟩
theorem take_snocF (st : List Fr) {k : Nat} {x : Fr} (h : st[k]? = some x) : st.take (k + 1) = st.take k ++ [x] := by
  rw [List.take_add_one, h]
  rfl

set_option maxRecDepth 100000 in
set_option maxHeartbeats 2000000 in
theorem back1_in (n : Nat) (hn : 1 ≤ n) (l Bn g cap : Nat) (st : List Fr) (hreach : st.length ≤ 1000) (J Jx : List Fr → World → Prop)
    (hY : ∀ pre (x : Fr) W, J pre W → pre.length < st.length → YieldAt Fence.wide (n - 1) Tryz.prog l #[.agg #[.int .i64 (x.1 : Int), .int .i64 (x.2 : Int)]] W fun e W' =>
      (e = .returned (.bool true) ∧ J (pre ++ [x]) W' ∧ Keep2 Bn g W W') ∨ (e = .returned (.bool false) ∧ Jx (pre ++ [x]) W'))
    (W : World) (hBs : Blk W Bn #[.slice (some ⟨g, 0, none⟩) st.length cap] 104) (hc : Fw W g cap st.reverse) (h0 : J [] W) :
    CallsIn Fence.wide n Tryz.prog 98 #[.func (.yield l) #[] #[], .pointer (some ⟨Bn, 0, none⟩)] W fun e W' => (∃ v, e = .returned v) ∧
      ((∃ ys, ys = st ∧ J ys W') ∨ (∃ pre, pre <+: st ∧ Jx pre W')) := by
  have hro : Fence.wide.round = none := rfl
  have hfn : Fence.wide.fn 98 := trivial
  obtain ⟨z, hz⟩ : ∃ z, st.length = z := ⟨_, rfl⟩
  rw [hz] at hreach hBs
  have HBS := Lib.hid hBs
  have HC := Lib.hid hc
  have HZ := Lib.hid hz
  have hcb := hBs.cell 0
  simp at hcb
  have e0 : IntKind.i64.wrap ((z : Int) - 1) = (z : Int) - 1 := by rw [IntWalk.i64_in _ (by omega)]
  clear hBs hc hz
  refine callsIn_of_wp Tryz.func98 rfl hfn ?_ hro
  simp only [Tryz.ntmps98, List.size_toArray, List.length_cons, List.length_nil, Nat.reduceAdd, Nat.reduceSub, Array.replicate_succ, Array.replicate_zero, List.push_toArray, List.append_toArray, List.nil_append, List.cons_append]
  gi_wp2
  clear hcb e0
  gi_loopw [3] (fun i wr => ∃ k : Nat, k ≤ z ∧ i = .int .i64 ((z : Int) - 1 - k) ∧ J (st.take k) wr ∧ Keep2 Bn g W wr) (fun i _ => (intOf i + 1).toNat)
  case atStart => exact ⟨0, Nat.zero_le _, by simp, h0, keep2_r _ _ _⟩
  case round =>
    obtain ⟨k, hk, rfl, hJs, hnx⟩ := hrel
    by_cases hlt : k < z
    · have hlen := HZ.out
      obtain ⟨d, hd⟩ : ∃ d : Nat, z = d + 1 + k := ⟨z - 1 - k, by omega⟩
      have ei : (z : Int) - 1 - k = (d : Int) := by omega
      obtain ⟨x, hx⟩ : ∃ x, st[k]? = some x := ⟨_, List.getElem?_eq_getElem (by omega)⟩
      have hxr : st.reverse[d]? = some x := by
        rw [List.getElem?_reverse (by omega), show st.length - 1 - d = k by omega]
        exact hx
      have hblk : Blk wr Bn #[.slice (some ⟨g, 0, none⟩) z cap] 104 := Eq.trans hnx.1 HBS.out
      have hfw : Fw wr g cap st.reverse := by
        obtain ⟨cs, h1, h2⟩ := HC.out
        exact ⟨cs, Eq.trans hnx.2 h1, h2⟩
      obtain ⟨c1, c2⟩ := hfw.cell hxr
      have hcb := hblk.cell 0
      simp at hcb
      have hdz : (d : Int) < (z : Int) := by omega
      have hd0 : (0 : Int) ≤ (d : Int) := by omega
      obtain ⟨fn, tmps, assign, body, hy, hR⟩ := hY _ x wr hJs (by rw [List.length_take]; omega)
      have hsnoc := take_snocF st hx
      have e1 : IntKind.i64.wrap ((d : Int) - 1) = (d : Int) - 1 := by rw [IntWalk.i64_in _ (by omega)]
      rw [ei]
      obtain ⟨xm, xf⟩ := x
      simp only at c1 c2 hy hR
      have HX := Lib.hid hx
      have HD := Lib.hid hd
      have HSN := Lib.hid hsnoc
      clear hx hxr hd ei hlen hsnoc
      gi_wp2
      refine hR.mono ?_
      rintro e W3 (⟨rfl, hJ3, hk3⟩ | ⟨rfl, hJx3⟩)
      · gi_wp2
        go_roundw
        case rel => exact ⟨k + 1, by omega, by have := HD.out; first | (congr 1; omega) | (simp; omega), by rw [HSN.out]; exact hJ3, keep2_t hnx hk3⟩
        case measure => first | (simp [intOf]; done) | (simp [intOf]; omega)
      · gi_wp2
        refine bodyPost_ret (results_none rfl _ _ _) rfl ?_
        exact ⟨⟨_, rfl⟩, .inr ⟨_, by rw [← HSN.out]; exact List.take_prefix _ _, hJx3⟩⟩
    · obtain rfl : k = z := by omega
      have hneg : ¬ (0 : Int) ≤ (k : Int) - 1 - k := by omega
      gi_wp2
      go_end0
      exact ⟨⟨_, rfl⟩, .inl (by have := hJs; rwa [← HZ.out, List.take_length] at this)⟩
theorem back_in (n : Nat) (ao : Option Addr) (len cap : Nat) (w : World) :
    CallsIn Fence.wide n Tryz.prog 73 #[.slice ao len cap] w fun e w' => e = .returned (.func (.func 98) #[] #[.pointer (some ⟨w.heap.size, 0, none⟩)]) ∧ w' = w.alloc (.cells #[.slice ao len cap] 104) := by
  have hro : Fence.wide.round = none := rfl
  have hfn : Fence.wide.fn 73 := trivial
  refine callsIn_of_wp Tryz.func73 rfl hfn ?_ hro
  simp only [Tryz.ntmps73, List.size_toArray, List.length_cons, List.length_nil, Nat.reduceAdd, Nat.reduceSub, Array.replicate_succ, Array.replicate_zero, List.push_toArray, List.append_toArray, List.nil_append, List.cons_append]
  gi_wp2
  go_ret
  exact ⟨rfl, rfl⟩
theorem back_stops (n : Nat) (hn : 1 ≤ n) (Bn g cap : Nat) (st : List Fr) (hreach : st.length ≤ 1000) (w : World) (hBs : Blk w Bn #[.slice (some ⟨g, 0, none⟩) st.length cap] 104) (hc : Fw w g cap st.reverse) :
    SeqStopsK Fence.wide n Tryz.prog 98 #[.pointer (some ⟨Bn, 0, none⟩)] (fun x : Fr => #[Value.agg #[.int .i64 (x.1 : Int), .int .i64 (x.2 : Int)]]) (Keep2 Bn g) (fun ys => ys = st) (fun pre => pre <+: st) st.length w := fun l J Jx W hW _ _ hY h0 =>
  back1_in n hn l Bn g cap st hreach J Jx hY W (hBs.below hW) (hc.frm (Frm.of_below (p := fun _ => False) hW) (fun h => h)) h0
end Go.Proofs.YtiklnlkakhghdaaGreatDoor

/- The statement TokenStep's walk: each token, and the lexing behind it, hang on the place and the lexing ahead alone. Condition: the program's table of operators lies as start-up lays it. -/
import Derived.Test.YtgfkbfojeohlkaaGreatDoorTkWq
import Derived.Test.YtgfkbfojeohlkaaGreatDoorTkT
import Derived.Test.YtgfkbfojeohlkaaGreatDoorTkK
namespace Go.Proofs.YtgfkbfojeohlkaaGreatDoor
open Go.RowKit
set_option linter.unusedVariables false
set_option linter.unusedSectionVars false

theorem LxR.keepB {W W' : World} {pv : Value} {x : Lx} {B : Nat} {cs : Array Value} {t : TypeId} (h : LxR W pv x) (hB : Blk W B cs t) (hcs : ∀ (j : Nat) (u : ByteArray), cs[j]? ≠ some (.string u)) (hF : Frm (fun k => k = B) W W') : LxR W' pv x := by
  refine ⟨?_, h.cap⟩
  rcases h.src with q | ⟨g, off, c2, h1, h2, h3⟩
  · exact .inl q
  · refine .inr ⟨g, off, c2, h1, Nat.lt_of_lt_of_le h2 hF.size, fun j u hj => ?_⟩
    by_cases e : g = B
    · exfalso
      subst e
      obtain ⟨d, ds, hp⟩ : ∃ d ds, x.pend = d :: ds := by
        cases hx : x.pend with
        | nil => rw [hx] at hj; cases hj
        | cons d ds => exact ⟨d, ds, rfl⟩
      have hs := h3 0 (.string d.word) (by rw [hp, cellsD_cons]; rfl)
      rw [Nat.add_zero, hB.cell off] at hs
      exact hcs _ _ hs
    · exact (hF.cell (a := ⟨g, off + j, none⟩) h2 e).trans (h3 j u hj)
theorem no_str4 {a b c : Int} {d : Bool} (j : Nat) (u : ByteArray) : (#[.int .i64 a, .int .i64 b, .int .i64 c, .bool d] : Array Value)[j]? ≠ some (.string u) := by
  match j with
  | 0 => simp
  | 1 => simp
  | 2 => simp
  | 3 => simp
  | k + 4 => simp
theorem no_str3 {a : Int} {o : Option Addr} {n c : Nat} {d : Bool} (j : Nat) (u : ByteArray) : (#[.int .i64 a, .slice o n c, .bool d] : Array Value)[j]? ≠ some (.string u) := by
  match j with
  | 0 => simp
  | 1 => simp
  | 2 => simp
  | k + 3 => simp
def SpI (s : ByteArray) (w W0 : World) (B : Nat) (v : Value) (wr : World) : Prop :=
  ∃ (i p : Nat) (x : Lx) (pre : List (Tk × Lx)) (o7 : Option Addr) (n7 c7 : Nat) (o8 : Option Addr) (n8 c8 : Nat), v = .int .i64 (i : Int) ∧ pre.length = i ∧ p ≤ s.size ∧ TKs s = pre ++ tksF s (s.size - p) p x ∧
    Blk wr B #[.int .i64 (x.await : Int), .slice o7 n7 c7, .bool x.body] 26 ∧ Blk wr (B + 1) #[.int .i64 (x.await : Int), .slice o8 n8 c8, .bool x.body] 26 ∧ LxR wr (.slice o7 n7 c7) x ∧ LxR wr (.slice o8 n8 c8) x ∧
    (x.body = true → x.pend ≠ []) ∧ x.await ≤ 1000 ∧ x.pend.length ≤ p ∧ Below B W0 wr ∧ Below w.heap.size w wr
theorem keepQ {X : World} {g B b o q : Nat} {v u v0 v1 v2 : Value} (hB : g ≠ b ∧ B ≠ b) (h : X.cell? ⟨g, q, none⟩ = some u ∧ X.cell? ⟨B, 0, none⟩ = some v0 ∧ X.cell? ⟨B, 1, none⟩ = some v1 ∧ X.cell? ⟨B, 2, none⟩ = some v2) :
    (X.setCell ⟨b, o, none⟩ v).cell? ⟨g, q, none⟩ = some u ∧ (X.setCell ⟨b, o, none⟩ v).cell? ⟨B, 0, none⟩ = some v0 ∧ (X.setCell ⟨b, o, none⟩ v).cell? ⟨B, 1, none⟩ = some v1 ∧ (X.setCell ⟨b, o, none⟩ v).cell? ⟨B, 2, none⟩ = some v2 := by
  have e1 : ∀ j, (X.setCell ⟨b, o, none⟩ v).cell? ⟨B, j, none⟩ = X.cell? ⟨B, j, none⟩ := fun j => World.cell?_of_block (Below.heap_setCell X _ _ B hB.2)
  have e2 : ∀ j, (X.setCell ⟨b, o, none⟩ v).cell? ⟨g, j, none⟩ = X.cell? ⟨g, j, none⟩ := fun j => World.cell?_of_block (Below.heap_setCell X _ _ g hB.1)
  simp only [e1, e2]
  exact h
def StC (W0 W : World) (tk tf te : Int) (top : Bool) (y : Lx) (v10 v11 : Value) : Prop :=
  ∃ (bt bx : Nat) (o9 : Option Addr) (n9 c9 : Nat), v10 = .pointer (some ⟨bt, 0, none⟩) ∧ v11 = .pointer (some ⟨bx, 0, none⟩) ∧ Blk W bt #[.int .i64 tk, .int .i64 tf, .int .i64 te, .bool top] 33 ∧ Blk W bx #[.int .i64 (y.await : Int), .slice o9 n9 c9, .bool y.body] 26 ∧ LxR W (.slice o9 n9 c9) y ∧ Below W0.heap.size W0 W ∧ W0.heap.size ≤ bt ∧ W0.heap.size ≤ bx
theorem stc_three {V X : World} {bt bx : Nat} {tk tf te : Int} {top : Bool} {y : Lx} {o9 : Option Addr} {n9 c9 : Nat} {a0 : Int} {q0 : Option Addr} {q1 q2 : Nat} {e0 : Bool} (hb : Below V.heap.size V X) (hL : LxR X (.slice o9 n9 c9) y)
    (kt : Blk X bt #[.int .i64 tk, .int .i64 tf, .int .i64 te, .bool top] 33) (kx : Blk X bx #[.int .i64 a0, .slice q0 q1 q2, .bool e0] 26) (hne : bt ≠ bx) (h1 : V.heap.size ≤ bt) (h2 : V.heap.size ≤ bx) :
    StC V (((X.setCell ⟨bx, 0, none⟩ (.int .i64 (y.await : Int))).setCell ⟨bx, 1, none⟩ (.slice o9 n9 c9)).setCell ⟨bx, 2, none⟩ (.bool y.body)) tk tf te top y (.pointer (some ⟨bt, 0, none⟩)) (.pointer (some ⟨bx, 0, none⟩)) := by
  have hF : Frm (fun k => k = bx) X (((X.setCell ⟨bx, 0, none⟩ (.int .i64 (y.await : Int))).setCell ⟨bx, 1, none⟩ (.slice o9 n9 c9)).setCell ⟨bx, 2, none⟩ (.bool y.body)) :=
    Frm.setCell (p := fun k => k = bx) (Frm.setCell (p := fun k => k = bx) (Frm.setCell (p := fun k => k = bx) (Frm.refl _ X) 0 (.inl rfl) _) 1 (.inl rfl) _) 2 (.inl rfl) _
  exact ⟨bt, bx, o9, n9, c9, rfl, rfl, ((kt.other 0 _ hne).other 1 _ hne).other 2 _ hne, ((kx.set 0 _).set 1 _).set 2 _, hL.keepB kx no_str3 hF, hb.trans (hF.below hb.size (fun k hk => by rw [hk]; exact h2)), h1, h2⟩
theorem stc_seven {V X : World} {bt bx : Nat} {tk tf te : Int} {top : Bool} {y : Lx} {o9 : Option Addr} {n9 c9 : Nat} {a0 b0 d0 : Int} {f0 : Bool} {q0 : Option Addr} {q1 q2 : Nat} {a1 : Int} {e0 : Bool} (hb : Below V.heap.size V X) (hL : LxR X (.slice o9 n9 c9) y)
    (kt : Blk X bt #[.int .i64 a0, .int .i64 b0, .int .i64 d0, .bool f0] 33) (kx : Blk X bx #[.int .i64 a1, .slice q0 q1 q2, .bool e0] 26) (hne : bt ≠ bx) (h1 : V.heap.size ≤ bt) (h2 : V.heap.size ≤ bx) :
    StC V (((((((X.setCell ⟨bt, 0, none⟩ (.int .i64 tk)).setCell ⟨bt, 1, none⟩ (.int .i64 tf)).setCell ⟨bt, 2, none⟩ (.int .i64 te)).setCell ⟨bt, 3, none⟩ (.bool top)).setCell ⟨bx, 0, none⟩ (.int .i64 (y.await : Int))).setCell ⟨bx, 1, none⟩ (.slice o9 n9 c9)).setCell ⟨bx, 2, none⟩ (.bool y.body)) tk tf te top y (.pointer (some ⟨bt, 0, none⟩)) (.pointer (some ⟨bx, 0, none⟩)) := by
  have hF : Frm (fun k => k = bt) X ((((X.setCell ⟨bt, 0, none⟩ (.int .i64 tk)).setCell ⟨bt, 1, none⟩ (.int .i64 tf)).setCell ⟨bt, 2, none⟩ (.int .i64 te)).setCell ⟨bt, 3, none⟩ (.bool top)) :=
    Frm.setCell (p := fun k => k = bt) (Frm.setCell (p := fun k => k = bt) (Frm.setCell (p := fun k => k = bt) (Frm.setCell (p := fun k => k = bt) (Frm.refl _ X) 0 (.inl rfl) _) 1 (.inl rfl) _) 2 (.inl rfl) _) 3 (.inl rfl) _
  exact stc_three (hb.trans (hF.below hb.size (fun k hk => by rw [hk]; exact h1))) (hL.keepB kt no_str4 hF) ((((kt.set 0 _).set 1 _).set 2 _).set 3 _) ((((kx.other 0 _ hne.symm).other 1 _ hne.symm).other 2 _ hne.symm).other 3 _ hne.symm) hne h1 h2
theorem stc_new {V X : World} {tk tf te : Int} {top : Bool} {y : Lx} {o9 : Option Addr} {n9 c9 : Nat} (hb : Below V.heap.size V X) (hL : LxR X (.slice o9 n9 c9) y) :
    StC V ((X.alloc (.cells #[.int .i64 tk, .int .i64 tf, .int .i64 te, .bool top] 33)).alloc (.cells #[.int .i64 (y.await : Int), .slice o9 n9 c9, .bool y.body] 26)) tk tf te top y (.pointer (some ⟨X.heap.size, 0, none⟩)) (.pointer (some ⟨X.heap.size + 1, 0, none⟩)) :=
  ⟨X.heap.size, X.heap.size + 1, o9, n9, c9, rfl, rfl, (Blk.new X _ _).alloc _, blk_a2 X _ _ _, hL.below (below_a2' X _ _), hb.trans ((below_a2' X _ _).mono hb.size), hb.size, Nat.le_succ_of_le hb.size⟩
theorem stc_wen {V X : World} {tk tf te : Int} {top : Bool} {y : Lx} {o9 : Option Addr} {n9 c9 : Nat} (hb : Below V.heap.size V X) (hL : LxR X (.slice o9 n9 c9) y) :
    StC V ((X.alloc (.cells #[.int .i64 (y.await : Int), .slice o9 n9 c9, .bool y.body] 26)).alloc (.cells #[.int .i64 tk, .int .i64 tf, .int .i64 te, .bool top] 33)) tk tf te top y (.pointer (some ⟨X.heap.size + 1, 0, none⟩)) (.pointer (some ⟨X.heap.size, 0, none⟩)) :=
  ⟨X.heap.size + 1, X.heap.size, o9, n9, c9, rfl, rfl, blk_a2 X _ _ _, (Blk.new X _ _).alloc _, hL.below (below_a2' X _ _), hb.trans ((below_a2' X _ _).mono hb.size), Nat.le_succ_of_le hb.size, hb.size⟩
theorem step_callV {ops : Array Oper} {o : Oper} {a : Act} {w : World} {K : Act → World → Prop} {Q : Exit → Act → World → Prop} {E : Prop} (hw : Region.wanted o (yielded ops a.tmps) = true) {f : FuncId} {fn : Func} (hf : Tryz.prog.funcs[f]? = some fn) (hname : (fn.name == "runtime.NumGoroutine") = false) (hb : fn.body.isSome = true) (args : List Operand) (tys : Array TypeId)
    (ho : o.op = .call { callee := .value (.func f), args := args.toArray, argTypes := tys }) (vs : List Value) (hv : args.map a.eval = vs) (R : Value → World → Prop)
    (hc : Calls Tryz.prog f vs.toArray w fun e w' => ∃ v, e = .returned v ∧ R v w') (h : ∀ v w', R v w' → K (a.put o.dst v) w') :
    if Region.wanted o (yielded ops a.tmps) = true then Oper.wp Tryz.prog o a w K Q else E := by
  rw [if_pos hw]
  have e1 : a.eval (.func f) = .func (.func f) #[] #[] := rfl
  unfold Oper.wp execOp
  simp only [ho, resolve, List.map_toArray, hv, e1, Deferred.ofValue, invoke, Sem.run_bind, Sem.run_pure, Result.andThen_ok, Array.empty_append, Array.append_empty, call_enter hf hname hb]
  rw [Oper.upon_enter]
  refine hc.mono ?_
  rintro e w' ⟨v, rfl, hr⟩
  exact h v w' hr
def StY (V W : World) (b : Nat) (y : Lx) : Prop := ∃ (o : Option Addr) (n c : Nat), Blk W b #[.int .i64 (y.await : Int), .slice o n c, .bool y.body] 26 ∧ LxR W (.slice o n c) y ∧ Frm (fun k => k = b) V W
theorem eql_tkp (a b c : Int) (e : Bool) (w : World) : (binOp .eql 33 (.agg #[.int .i64 a, .int .i64 b, .int .i64 c, .bool e]) (.agg #[.int .i64 a, .int .i64 b, .int .i64 c, .bool e])).run Tryz.prog w = .ok (.bool true) w := by
  rw [run_eql_struct, eq_tk]
  simp [Result.andThen]
theorem keepQ1 {X : World} {b o : Nat} {v : Value} {S : World → Prop} (h : S (X.setCell ⟨b, o, none⟩ v)) : S (X.setCell ⟨b, o, none⟩ v) := h
section
variable (w : World) (hT : Tx w)
include hT
set_option maxRecDepth 100000 in
set_option maxHeartbeats 8000000 in
theorem tokenStep_in (s : ByteArray) (out : Int) (hs : s.size ≤ 150) :
    Calls Tryz.prog 5 #[.string s, .int .i64 out] w fun e w' => e = .returned (.bool true) ∧ Below w.heap.size w w' := by
  have HAW := Lib.hid (awake9_any w hT)
  have hi : ¬ (150 : Int) < (s.size : Int) := by omega
  have HRL := Lib.hid (fun W => reflex_any W s (by omega))
  have hlen := tksF_len s s.size 0 Lx.zero
  have e : TKs s = tksF s s.size 0 Lx.zero := rfl
  rw [← e] at hlen
  have HGS := Lib.hid (fun a x pre => @tks_get s a x pre)
  have HES := Lib.hid (fun a x pre => @tks_done s a x pre)
  have HTX := Lib.hid hT
  clear hT e
  generalize lstX (TKs s) = X at *
  obtain ⟨L, hL⟩ : ∃ L, (TKs s).map Prod.fst = L := ⟨_, rfl⟩
  obtain ⟨N, hN⟩ : ∃ N, (TKs s).length = N := ⟨_, rfl⟩
  have hLN : N = L.length := by rw [← hL, List.length_map, hN]
  rw [hL, hN] at HRL HGS
  rw [hN] at hlen HES
  have HLN := Lib.hid hLN
  clear hL hN hLN
  go_enter Tryz.func5, Tryz.ntmps5
  go_wp2_with fail
  refine (HAW.out).mono ?_
  rintro e w1 ⟨rfl, hb1⟩
  go_wp2_with fail
  refine (HRL.out _).mono ?_
  rintro e w2 ⟨v, oa, n, c, rfl, ho, hM, hb2⟩
  obtain ⟨ot, ct, rfl, hK⟩ := RdK.of_own HLN.out ho
  have hba := (Below.refl w2.heap.size w2).alloc (Nat.le_refl _) (.cells #[.int .i64 (X.await : Int), .slice oa n c, .bool X.body] 26)
  have hBw0 := (hb1.trans (hb2.mono hb1.size)).trans (hba.mono (Nat.le_trans hb1.size hb2.size))
  have hK1 := hK.below hba
  unfold aggL
  clear ho hM hK hb2 hb1 hba
  go_wp2
  obtain ⟨W0, hW0⟩ : ∃ Z, w2.alloc (.cells #[.int .i64 (X.await : Int), .slice oa n c, .bool X.body] 26) = Z := ⟨_, rfl⟩
  rw [hW0] at hBw0 hK1
  have k7 := (Blk.new W0 #[.int .i64 0, .slice none 0 0, .bool false] 26).alloc (.cells #[.int .i64 0, .slice none 0 0, .bool false] 26)
  have k8 := blk_a2 W0 (.cells #[.int .i64 0, .slice none 0 0, .bool false] 26) #[.int .i64 0, .slice none 0 0, .bool false] 26
  have hB8 := below_a2' W0 (.cells #[.int .i64 0, .slice none 0 0, .bool false] 26) (.cells #[.int .i64 0, .slice none 0 0, .bool false] 26)
  have hzW : w2.heap.size + 1 = W0.heap.size := by rw [← hW0]; simp
  rw [hW0]
  try rw [hzW]
  obtain ⟨W1, hW1⟩ : ∃ Z, (W0.alloc (.cells #[.int .i64 0, .slice none 0 0, .bool false] 26)).alloc (.cells #[.int .i64 0, .slice none 0 0, .bool false] 26) = Z := ⟨_, rfl⟩
  rw [hW1] at k7 k8 hB8 ⊢
  obtain ⟨B, hB⟩ : ∃ z, W0.heap.size = z := ⟨_, rfl⟩
  rw [hB] at k7 k8 hB8 ⊢
  have HK1 := Lib.hid hK1
  have HBW0 := Lib.hid hBw0
  have HB := Lib.hid hB
  clear hW0 hW1 hzW hK1 hB hBw0
  go_loopw [9] (fun v wr => SpI s w W0 B v wr) (fun v _ => N - (intOf v).toNat)
  case atStart =>
    exact ⟨0, 0, Lx.zero, [], none, 0, 0, none, 0, 0, rfl, rfl, Nat.zero_le _, rfl, k7, k8, ⟨.inl ⟨rfl, rfl, rfl⟩, ⟨none, 0, rfl, Nat.le_refl _⟩⟩, ⟨.inl ⟨rfl, rfl, rfl⟩, ⟨none, 0, rfl, Nat.le_refl _⟩⟩, (fun h => by cases h), Nat.zero_le _, Nat.zero_le _, hB8, HBW0.out.trans (hB8.mono (by have := HBW0.out.size; have := HB.out; omega))⟩
  case round =>
    obtain ⟨i, p, x, pre, o7, n7, c7, o8, n8, c8, rfl, hpl, hps, hLS, h7, h8, hM7, hM8, hbd, haw, hpp, hB0, hBw⟩ := hrel
    clear k7 k8 hB8
    have HLS := Lib.hid hLS
    have HPL := Lib.hid hpl
    have hkS : RdK wr ot N L := HK1.out.below (by rw [HB.out]; exact hB0)
    have q0 : (0 : Int) ≤ (i : Int) := by omega
    clear hLS hpl
    by_cases hlt : p < s.size
    · obtain ⟨hg, hgl, hgn⟩ := HGS.out p x pre HLS.out hlt
      rw [HPL.out] at hg hgl
      have q1 : (i : Int) < (N : Int) := by omega
      have hok := tkN_ok x hlt
      have hnk := nxN_ok x hlt hpp haw
      have hnb := nxN_body (s := s) (a := p) hbd
      obtain ⟨g1, o1, rfl, h10, b00, b01, b02, b03⟩ := HK1.out.cells i _ hg
      have h10' : g1 < B := by have := HB.out; omega
      have h1 : g1 < wr.heap.size := by have := h7.lt; omega
      have c0 := (hB0.cell (p := ⟨g1, _, none⟩) h10').trans b00
      have c1 := (hB0.cell (p := ⟨g1, _, none⟩) h10').trans b01
      have c2 := (hB0.cell (p := ⟨g1, _, none⟩) h10').trans b02
      have c3 := (hB0.cell (p := ⟨g1, _, none⟩) h10').trans b03
      clear h10 b00 b01 b02 b03
      have hts : ∀ W, Below wr.heap.size wr W → _ := fun W hW => tstep_in W x o7 n7 c7 (hM7.below hW) s (by omega) (HTX.out.b (hBw.trans (hW.mono hBw.size))) (by omega) haw p hlt
      have hrs : ∀ W, LxR W (.slice o8 n8 c8) x → _ := fun W hW => rstep_any W x o8 n8 c8 hW s p hlt (by omega) hbd haw (by omega)
      generalize tkN s p x = t at *
      generalize nxN s p x = y at *
      obtain ⟨tk, tf, te, top⟩ := t
      obtain ⟨hf, hk2, hk3⟩ := hok
      dsimp only at hf hk2 hk3 c0 c1 c2 c3 hgn hnk
      subst hf
      unfold aggT aggL at hts
      unfold aggL at hrs
      have HTS := Lib.hid (fun W hW => (hts W hW).mono (fun e w' (h : ∃ oa' n' c', e = .returned (.tuple #[.agg #[.int .i64 (tk : Int), .int .i64 (tf : Int), .int .i64 (te : Int), .bool top], .agg #[.int .i64 (y.await : Int), .slice oa' n' c', .bool y.body]]) ∧ LxR w' (.slice oa' n' c') y ∧ Below W.heap.size W w') => (by
        obtain ⟨oa', n', c', h1, h2, h3⟩ := h
        exact ⟨_, h1, oa', n', c', rfl, h2, h3⟩ : ∃ v, e = .returned v ∧ (∃ oa' n' c', v = .tuple #[.agg #[.int .i64 (tk : Int), .int .i64 (tf : Int), .int .i64 (te : Int), .bool top], .agg #[.int .i64 (y.await : Int), .slice oa' n' c', .bool y.body]] ∧ LxR w' (.slice oa' n' c') y ∧ Below W.heap.size W w'))))
      have HRS := Lib.hid hrs
      have HGN := Lib.hid hgn
      have HHH := Lib.hid (And.intro hnk hnb)
      have x0 := h7.cell 0
      have x1 := h7.cell 1
      have x2 := h7.cell 2
      have H7 := Lib.hid h7
      have H8 := Lib.hid h8
      have HM8 := Lib.hid hM8
      have hkp : ∀ W, Below wr.heap.size wr W → W.cell? ⟨g1, o1 + i * 4 + 1, none⟩ = some (.int .i64 (tf : Int)) ∧ W.cell? ⟨B, 0, none⟩ = some (.int .i64 (x.await : Int)) ∧ W.cell? ⟨B, 1, none⟩ = some (.slice o7 n7 c7) ∧ W.cell? ⟨B, 2, none⟩ = some (.bool x.body) := fun W hW => ⟨(hW.cell (p := ⟨g1, _, none⟩) h1).trans c1, (h7.below hW).cell 0, (h7.below hW).cell 1, (h7.below hW).cell 2⟩
      have HKP := Lib.hid hkp
      have hS0 := hkp _ (Below.refl wr.heap.size wr).drew
      have hSa := fun o => hkp _ (((Below.refl wr.heap.size wr).alloc (Nat.le_refl _) o).drew)
      have hSb := fun o p => hkp _ ((((Below.refl wr.heap.size wr).alloc (Nat.le_refl _) o).alloc (by rw [World.size_alloc]; exact Nat.le_succ _) p).drew)
      have HC := Lib.hid (And.intro c0 (And.intro c1 (And.intro c2 (And.intro c3 h1))))
      have h7l := h7.lt
      clear hts hrs hgn hnk hnb hM7 hg h7 h8 hM8 hgl hkp
      go_upto_region 10 with fail
      go_cut [10, 11] from 30 to 40 (fun v10 v11 wx => StC wr wx (tk : Int) (tf : Int) (te : Int) top y v10 v11)
      case first =>
        go_region_held_law (fun w' => w'.cell? ⟨g1, o1 + i * 4 + 1, none⟩ = some (.int .i64 (tf : Int)) ∧ w'.cell? ⟨B, 0, none⟩ = some (.int .i64 (x.await : Int)) ∧ w'.cell? ⟨B, 1, none⟩ = some (.slice o7 n7 c7) ∧ w'.cell? ⟨B, 2, none⟩ = some (.bool x.body)) (((repeat (with_reducible (refine keepQ (by omega) ?_))); with_reducible (first | exact hS0 | exact hSa _ | exact hSb _ _ | exact s4 | exact s4a _ | exact s4b _ _))) (first
          | (refine step_call (by rfl) Tryz.func23 (by kernel_rfl) (by kernel_rfl) _ _ (by rfl) [.string s, .int .i64 (tf : Int), .agg #[.int .i64 (x.await : Int), .slice o7 n7 c7, .bool x.body]] (by rfl) _ (HTS.out _ (Below.refl _ _).drew) ?_; intro v w4 hh; obtain ⟨o9, n9, c9, hv4, hM9, hb4⟩ := hh; subst hv4; have hb04 : Below wr.heap.size wr w4 := (Below.refl wr.heap.size wr).drew.trans hb4; have s4 := HKP.out _ hb04; have s4a := fun o => HKP.out _ (hb04.alloc hb04.size o); have s4b := fun o p => HKP.out _ ((hb04.alloc hb04.size o).alloc (Nat.le_trans hb04.size (by rw [World.size_alloc]; exact Nat.le_succ _)) p); have kind1 : True := trivial)
          | (refine step_call (by rfl) Tryz.func23 (by kernel_rfl) (by kernel_rfl) _ _ (by rfl) [.string s, .int .i64 (tf : Int), .agg #[.int .i64 (x.await : Int), .slice o7 n7 c7, .bool x.body]] (by rfl) _ (HTS.out (wr.alloc (.cells #[.int .i64 0, .int .i64 0, .int .i64 0, .bool false] 33)).drew ((Below.refl _ _).alloc (Nat.le_refl _) _).drew) ?_; intro v w4 hh; obtain ⟨o9, n9, c9, hv4, hM9, hb4⟩ := hh; subst hv4; have hb0 := ((Below.refl wr.heap.size wr).alloc (Nat.le_refl _) (.cells #[.int .i64 0, .int .i64 0, .int .i64 0, .bool false] 33)).drew; have hb04 : Below wr.heap.size wr w4 := hb0.trans (hb4.mono hb0.size); have s4 := HKP.out _ hb04; have s4a := fun o => HKP.out _ (hb04.alloc hb04.size o); have s4b := fun o p => HKP.out _ ((hb04.alloc hb04.size o).alloc (Nat.le_trans hb04.size (by rw [World.size_alloc]; exact Nat.le_succ _)) p); have hz4 : wr.heap.size + 1 ≤ w4.heap.size := (by have := hb4.size; have e : ((wr.alloc (.cells #[.int .i64 0, .int .i64 0, .int .i64 0, .bool false] 33)).drew).heap.size = wr.heap.size + 1 := World.size_alloc _ _; omega); have kt0 := ((Blk.new wr #[.int .i64 0, .int .i64 0, .int .i64 0, .bool false] 33).drew).below hb4; have kt := kt0.alloc (.cells #[.int .i64 0, .slice none 0 0, .bool false] 26); have ktc0 := kt.cell 0; have ktc1 := kt.cell 1; have ktc2 := kt.cell 2; have ktc3 := kt.cell 3; have ktf0 := kt.frozen 0; have ktf1 := kt.frozen 1; have ktf2 := kt.frozen 2; have ktf3 := kt.frozen 3; have kx := Blk.new w4 #[.int .i64 0, .slice none 0 0, .bool false] 26; have kxc0 := kx.cell 0; have kxc1 := kx.cell 1; have kxc2 := kx.cell 2; have kxf0 := kx.frozen 0; have kxf1 := kx.frozen 1; have kxf2 := kx.frozen 2; have ky := ((((kx).other 0 (.int .i64 (tk : Int)) (b' := wr.heap.size) (by omega)).other 1 (.int .i64 (tf : Int)) (b' := wr.heap.size) (by omega)).other 2 (.int .i64 (te : Int)) (b' := wr.heap.size) (by omega)).other 3 (.bool top) (b' := wr.heap.size) (by omega); have kyc0 := ky.cell 0; have kyc1 := ky.cell 1; have kyc2 := ky.cell 2; have kyf0 := ky.frozen 0; have kyf1 := ky.frozen 1; have kyf2 := ky.frozen 2; have kind2 : True := trivial)
          | (refine step_call (by rfl) Tryz.func23 (by kernel_rfl) (by kernel_rfl) _ _ (by rfl) [.string s, .int .i64 (tf : Int), .agg #[.int .i64 (x.await : Int), .slice o7 n7 c7, .bool x.body]] (by rfl) _ (HTS.out (wr.alloc (.cells #[.int .i64 0, .slice none 0 0, .bool false] 26)).drew ((Below.refl _ _).alloc (Nat.le_refl _) _).drew) ?_; intro v w4 hh; obtain ⟨o9, n9, c9, hv4, hM9, hb4⟩ := hh; subst hv4; have hb0 := ((Below.refl wr.heap.size wr).alloc (Nat.le_refl _) (.cells #[.int .i64 0, .slice none 0 0, .bool false] 26)).drew; have hb04 : Below wr.heap.size wr w4 := hb0.trans (hb4.mono hb0.size); have s4 := HKP.out _ hb04; have s4a := fun o => HKP.out _ (hb04.alloc hb04.size o); have s4b := fun o p => HKP.out _ ((hb04.alloc hb04.size o).alloc (Nat.le_trans hb04.size (by rw [World.size_alloc]; exact Nat.le_succ _)) p); have hz4 : wr.heap.size + 1 ≤ w4.heap.size := (by have := hb4.size; have e : ((wr.alloc (.cells #[.int .i64 0, .slice none 0 0, .bool false] 26)).drew).heap.size = wr.heap.size + 1 := World.size_alloc _ _; omega); have kx0 := ((Blk.new wr #[.int .i64 0, .slice none 0 0, .bool false] 26).drew).below hb4; have kx := kx0.alloc (.cells #[.int .i64 (tk : Int), .int .i64 (tf : Int), .int .i64 (te : Int), .bool top] 33); have kxc0 := kx.cell 0; have kxc1 := kx.cell 1; have kxc2 := kx.cell 2; have kxf0 := kx.frozen 0; have kxf1 := kx.frozen 1; have kxf2 := kx.frozen 2; have kind3 : True := trivial)
          | (refine step_call (by rfl) Tryz.func23 (by kernel_rfl) (by kernel_rfl) _ _ (by rfl) [.string s, .int .i64 (tf : Int), .agg #[.int .i64 (x.await : Int), .slice o7 n7 c7, .bool x.body]] (by rfl) _ (HTS.out ((wr.alloc (.cells #[.int .i64 0, .int .i64 0, .int .i64 0, .bool false] 33)).alloc (.cells #[.int .i64 0, .slice none 0 0, .bool false] 26)).drew (((Below.refl _ _).alloc (Nat.le_refl _) _).alloc (by rw [World.size_alloc]; exact Nat.le_succ _) _).drew) ?_; intro v w4 hh; obtain ⟨o9, n9, c9, hv4, hM9, hb4⟩ := hh; subst hv4; have hb0 := ((((Below.refl wr.heap.size wr).alloc (Nat.le_refl _) (.cells #[.int .i64 0, .int .i64 0, .int .i64 0, .bool false] 33)).alloc (by rw [World.size_alloc]; exact Nat.le_succ _) (.cells #[.int .i64 0, .slice none 0 0, .bool false] 26))).drew; have hb04 : Below wr.heap.size wr w4 := hb0.trans (hb4.mono hb0.size); have s4 := HKP.out _ hb04; have s4a := fun o => HKP.out _ (hb04.alloc hb04.size o); have s4b := fun o p => HKP.out _ ((hb04.alloc hb04.size o).alloc (Nat.le_trans hb04.size (by rw [World.size_alloc]; exact Nat.le_succ _)) p); have kt := ((((Blk.new wr #[.int .i64 0, .int .i64 0, .int .i64 0, .bool false] 33).alloc (.cells #[.int .i64 0, .slice none 0 0, .bool false] 26)).drew)).below hb4; have ktc0 := kt.cell 0; have ktc1 := kt.cell 1; have ktc2 := kt.cell 2; have ktc3 := kt.cell 3; have ktf0 := kt.frozen 0; have ktf1 := kt.frozen 1; have ktf2 := kt.frozen 2; have ktf3 := kt.frozen 3; have kx := ((blk_a2 wr (.cells #[.int .i64 0, .int .i64 0, .int .i64 0, .bool false] 33) #[.int .i64 0, .slice none 0 0, .bool false] 26).drew).below hb4; have kxc0 := kx.cell 0; have kxc1 := kx.cell 1; have kxc2 := kx.cell 2; have kxf0 := kx.frozen 0; have kxf1 := kx.frozen 1; have kxf2 := kx.frozen 2; have kind4 : True := trivial)
          | (refine step_call (by rfl) Tryz.func23 (by kernel_rfl) (by kernel_rfl) _ _ (by rfl) [.string s, .int .i64 (tf : Int), .agg #[.int .i64 (x.await : Int), .slice o7 n7 c7, .bool x.body]] (by rfl) _ (HTS.out ((wr.alloc (.cells #[.int .i64 0, .slice none 0 0, .bool false] 26)).alloc (.cells #[.int .i64 0, .int .i64 0, .int .i64 0, .bool false] 33)).drew (((Below.refl _ _).alloc (Nat.le_refl _) _).alloc (by rw [World.size_alloc]; exact Nat.le_succ _) _).drew) ?_; intro v w4 hh; obtain ⟨o9, n9, c9, hv4, hM9, hb4⟩ := hh; subst hv4; have hb0 := ((((Below.refl wr.heap.size wr).alloc (Nat.le_refl _) (.cells #[.int .i64 0, .slice none 0 0, .bool false] 26)).alloc (by rw [World.size_alloc]; exact Nat.le_succ _) (.cells #[.int .i64 0, .int .i64 0, .int .i64 0, .bool false] 33))).drew; have hb04 : Below wr.heap.size wr w4 := hb0.trans (hb4.mono hb0.size); have s4 := HKP.out _ hb04; have s4a := fun o => HKP.out _ (hb04.alloc hb04.size o); have s4b := fun o p => HKP.out _ ((hb04.alloc hb04.size o).alloc (Nat.le_trans hb04.size (by rw [World.size_alloc]; exact Nat.le_succ _)) p); have kt := ((((Blk.new wr #[.int .i64 0, .slice none 0 0, .bool false] 26).alloc (.cells #[.int .i64 0, .int .i64 0, .int .i64 0, .bool false] 33)).drew)).below hb4; have ktc0 := kt.cell 0; have ktc1 := kt.cell 1; have ktc2 := kt.cell 2; have ktf0 := kt.frozen 0; have ktf1 := kt.frozen 1; have ktf2 := kt.frozen 2; have kx := ((blk_a2 wr (.cells #[.int .i64 0, .slice none 0 0, .bool false] 26) #[.int .i64 0, .int .i64 0, .int .i64 0, .bool false] 33).drew).below hb4; have kxc0 := kx.cell 0; have kxc1 := kx.cell 1; have kxc2 := kx.cell 2; have kxc3 := kx.cell 3; have kxf0 := kx.frozen 0; have kxf1 := kx.frozen 1; have kxf2 := kx.frozen 2; have kxf3 := kx.frozen 3; have kind5 : True := trivial))
        all_goals
          go_step
          go_step
          go_meet
          case rel =>
            have hs4 := hb04.size
            first
              | with_reducible exact stc_new hb04 hM9
              | with_reducible exact stc_wen hb04 hM9
              | with_reducible exact stc_seven (hb04.alloc hs4 _) (hM9.below ((Below.refl _ _).alloc (Nat.le_refl _) _)) kt kx (by omega) (Nat.le_refl _) hs4
              | with_reducible exact stc_three (hb04.alloc hs4 _) (hM9.below ((Below.refl _ _).alloc (Nat.le_refl _) _)) (Blk.new w4 _ _) kx (by omega) hs4 (Nat.le_refl _)
              | with_reducible exact stc_seven hb04 hM9 kt kx (by omega) (Nat.le_refl _) (Nat.le_succ _)
              | with_reducible exact stc_seven hb04 hM9 kx kt (by omega) (Nat.le_succ _) (Nat.le_refl _)
      case rest =>
        obtain ⟨bt, bx, o9, n9, c9, rfl, rfl, kt, kx, hM9, hbw, hge1, hge2⟩ := hcut
        generalize wc = wA at *
        obtain ⟨b0, b1, b2, b3, hg1⟩ := HC.out
        have k8 := H8.out.below hbw
        have k7 := H7.out.below hbw
        have hM8 := HM8.out.below hbw
        have hB1 : Below B W0 wA := hB0.trans (hbw.mono (by have := H8.out.lt; omega))
        have hBw1 : Below w.heap.size w wA := hBw.trans (hbw.mono hBw.size)
        have hrow : ∀ k, wA.cell? ⟨g1, k, none⟩ = wr.cell? ⟨g1, k, none⟩ := fun k => hbw.cell (p := ⟨g1, k, none⟩) hg1
        have d0 := (hrow _).trans b0
        have d1 := (hrow _).trans b1
        have d2 := (hrow _).trans b2
        have d3 := (hrow _).trans b3
        have hzA := hbw.size
        have hgA : g1 < wA.heap.size := Nat.lt_of_lt_of_le hg1 hzA
        have hltA : B + 1 < wr.heap.size := H8.out.lt
        have HRS2 := Lib.hid (fun W hW => (HRS.out W hW).mono (fun e w' h => (by
          obtain ⟨oa1, n1, c1, h1, h2, h3, _⟩ := h
          exact ⟨_, h1, oa1, n1, c1, rfl, h2, h3⟩ : ∃ v, e = .returned v ∧ (∃ oa1 n1 c1, v = .tuple #[.agg #[.int .i64 (tk : Int), .int .i64 (tf : Int), .int .i64 (te : Int), .bool top], .agg #[.int .i64 (y.await : Int), .slice oa1 n1 c1, .bool y.body]] ∧ LxR w' (.slice oa1 n1 c1) y ∧ Below W.heap.size W w'))))
        have HK7 := Lib.hid k7
        have HKT := Lib.hid (And.intro kt (And.intro kx hM9))
        have HBB := Lib.hid (And.intro hB1 hBw1)
        have HDD := Lib.hid (And.intro d0 (And.intro d1 (And.intro d2 d3)))
        have HM8' := Lib.hid hM8
        clear hS0 hSa hSb x0 x1 x2 b0 b1 b2 b3 hB1 hBw1 k7 kt kx hM9 hrow hM8 hbw HRS H7 H8 HM8 HC HKP HTS d0 d2 d3 hkS hB0 hBw
        go_upto_region 11 with fail
        go_cut [] from 41 to 51 (fun wx => StY wA wx (B + 1) y)
        case first =>
          have y0 := k8.drew.cell 0
          have y1 := k8.drew.cell 1
          have y2 := k8.drew.cell 2
          go_region_law (refine step_call (by rfl) Tryz.func24 (by kernel_rfl) (by kernel_rfl) _ _ (by rfl) [.string s, .int .i64 (tf : Int), .agg #[.int .i64 (x.await : Int), .slice o8 n8 c8, .bool x.body]] (by rfl) _ (HRS2.out wA.drew (HM8'.out.below (Below.refl _ _).drew)) ?_; intro v w5 hh; obtain ⟨o6, n6, c6, hv5, hM6, hb5⟩ := hh; subst hv5; have k85 := k8.drew.below hb5; have u0 := k85.cell 0; have u1 := k85.cell 1; have u2 := k85.cell 2; have f0 := k85.frozen 0; have f1 := k85.frozen 1; have f2 := k85.frozen 2)
          all_goals
            go_step
            go_step
            go_meet
            case rel =>
              have hA5 : Below wA.heap.size wA w5 := (Below.refl wA.heap.size wA).drew.trans hb5
              have hF5 := Frm.setCell (p := fun k => k = B + 1) (Frm.setCell (p := fun k => k = B + 1) (Frm.setCell (p := fun k => k = B + 1) (Frm.refl _ w5) 0 (.inl rfl) (.int .i64 (y.await : Int))) 1 (.inl rfl) (.slice o6 n6 c6)) 2 (.inl rfl) (.bool y.body)
              exact ⟨o6, n6, c6, ((k85.set 0 _).set 1 _).set 2 _, hM6.keepB k85 no_str3 hF5, (Frm.of_below (p := fun k => k = B + 1) hA5).trans hF5 (fun _ _ h => h)⟩
        case rest =>
          obtain ⟨o6, n6, c6, k8', hM6, hF⟩ := hcut
          generalize wc = wB at *
          obtain ⟨d0, d1', d2, d3⟩ := HDD.out
          obtain ⟨kt, kx, hM9⟩ := HKT.out
          have kt' := kt.frm hF (fun e => by have e' : bt = B + 1 := e; omega)
          have kx' := kx.frm hF (fun e => by have e' : bx = B + 1 := e; omega)
          have k7' := HK7.out.frm hF (fun e => by have e' : B = B + 1 := e; omega)
          have hM9' := hM9.keepB k8 no_str3 hF
          have hgB : g1 ≠ B + 1 := by omega
          have hrow : ∀ k, wB.cell? ⟨g1, k, none⟩ = wA.cell? ⟨g1, k, none⟩ := fun k => hF.cell (a := ⟨g1, k, none⟩) hgA hgB
          have hBB2 : Below B W0 wB := HBB.out.1.trans (hF.below (by omega) (fun k hk => by have e' : k = B + 1 := hk; omega))
          have hzw : w.heap.size ≤ B := by have := HBW0.out.size; have := HB.out; omega
          have hBw2 : Below w.heap.size w wB := HBB.out.2.trans (hF.below (by have := HBB.out.2.size; omega) (fun k hk => by have e' : k = B + 1 := hk; omega))
          have hgl : g1 < wB.heap.size := Nat.lt_of_lt_of_le hgA hF.size
          have hkp : ∀ W, Below wB.heap.size wB W → W.cell? ⟨bt, 0, none⟩ = some (.int .i64 (tk : Int)) ∧ W.cell? ⟨bt, 1, none⟩ = some (.int .i64 (tf : Int)) ∧ W.cell? ⟨bt, 2, none⟩ = some (.int .i64 (te : Int)) ∧ W.cell? ⟨bt, 3, none⟩ = some (.bool top) ∧ W.cell? ⟨g1, o1 + i * 4, none⟩ = some (.int .i64 (tk : Int)) ∧ W.cell? ⟨g1, o1 + i * 4 + 1, none⟩ = some (.int .i64 (tf : Int)) ∧ W.cell? ⟨g1, o1 + i * 4 + 2, none⟩ = some (.int .i64 (te : Int)) ∧ W.cell? ⟨g1, o1 + i * 4 + 3, none⟩ = some (.bool top) ∧ W.cell? ⟨bx, 0, none⟩ = some (.int .i64 (y.await : Int)) ∧ W.cell? ⟨bx, 1, none⟩ = some (.slice o9 n9 c9) ∧ W.cell? ⟨bx, 2, none⟩ = some (.bool y.body) ∧ W.cell? ⟨B + 1, 0, none⟩ = some (.int .i64 (y.await : Int)) ∧ W.cell? ⟨B + 1, 1, none⟩ = some (.slice o6 n6 c6) ∧ W.cell? ⟨B + 1, 2, none⟩ = some (.bool y.body) := fun W hW => ⟨(kt'.below hW).cell 0, (kt'.below hW).cell 1, (kt'.below hW).cell 2, (kt'.below hW).cell 3, (hW.cell (p := ⟨g1, _, none⟩) hgl).trans ((hrow _).trans d0), (hW.cell (p := ⟨g1, _, none⟩) hgl).trans ((hrow _).trans d1'), (hW.cell (p := ⟨g1, _, none⟩) hgl).trans ((hrow _).trans d2), (hW.cell (p := ⟨g1, _, none⟩) hgl).trans ((hrow _).trans d3), (kx'.below hW).cell 0, (kx'.below hW).cell 1, (kx'.below hW).cell 2, (k8'.below hW).cell 0, (k8'.below hW).cell 1, (k8'.below hW).cell 2⟩
          have HKP := Lib.hid hkp
          have hneq := neq_tk (tk : Int) tf te top
          have hpy : y.pend.length ≤ 1000000 := by have := HHH.out.1.1; omega
          have HSM := Lib.hid (fun W (hW : Below wB.heap.size wB W) => (rsame_any W y.pend y.pend o9 o6 n9 n6 c9 c6 (hM9'.below hW).rdd (hM6.below hW).rdd (by have := hM9'.len; omega) (by have := hM6.len; omega) (y.await : Int) (y.await : Int) y.body y.body).mono (fun e w' h => (by
            rw [sameX_refl] at h
            exact ⟨_, h.1, rfl, h.2⟩ : ∃ v, e = .returned v ∧ (v = .bool true ∧ Below W.heap.size W w'))))
          have HM9' := Lib.hid hM9'
          have HM6 := Lib.hid hM6
          have HK8' := Lib.hid k8'
          have HB2 := Lib.hid (And.intro hBB2 hBw2)
          have HK7' := Lib.hid k7'
          have HKX := Lib.hid kx'
          have e0 := hkp _ (Below.refl wB.heap.size wB).drew
          clear hrow d0 d1' d2 d3 d1 kt kx hM9 kt' kx' hM9' hM6 k8' k7' k8 hF hBB2 hBw2 hkp
          go_upto_region 12 with fail
          go_cut [63] from 52 to 63 (fun v wx => v = .bool false ∧ Below wB.heap.size wB wx)
          case first =>
            go_region_held_law (fun W => W.cell? ⟨bt, 0, none⟩ = some (.int .i64 (tk : Int)) ∧ W.cell? ⟨bt, 1, none⟩ = some (.int .i64 (tf : Int)) ∧ W.cell? ⟨bt, 2, none⟩ = some (.int .i64 (te : Int)) ∧ W.cell? ⟨bt, 3, none⟩ = some (.bool top) ∧ W.cell? ⟨g1, o1 + i * 4, none⟩ = some (.int .i64 (tk : Int)) ∧ W.cell? ⟨g1, o1 + i * 4 + 1, none⟩ = some (.int .i64 (tf : Int)) ∧ W.cell? ⟨g1, o1 + i * 4 + 2, none⟩ = some (.int .i64 (te : Int)) ∧ W.cell? ⟨g1, o1 + i * 4 + 3, none⟩ = some (.bool top) ∧ W.cell? ⟨bx, 0, none⟩ = some (.int .i64 (y.await : Int)) ∧ W.cell? ⟨bx, 1, none⟩ = some (.slice o9 n9 c9) ∧ W.cell? ⟨bx, 2, none⟩ = some (.bool y.body) ∧ W.cell? ⟨B + 1, 0, none⟩ = some (.int .i64 (y.await : Int)) ∧ W.cell? ⟨B + 1, 1, none⟩ = some (.slice o6 n6 c6) ∧ W.cell? ⟨B + 1, 2, none⟩ = some (.bool y.body)) (with_reducible (first | exact e0 | exact s5)) (first
              | (refine step_callV (by rfl) Tryz.func21 (by kernel_rfl) (by kernel_rfl) _ _ (by rfl) [.agg #[.int .i64 (y.await : Int), .slice o9 n9 c9, .bool y.body], .agg #[.int .i64 (y.await : Int), .slice o6 n6 c6, .bool y.body]] (by rfl) _ (HSM.out wB.drew (Below.refl wB.heap.size wB).drew) ?_; intro v w5 hh; obtain ⟨hv5, hb5⟩ := hh; subst hv5; have hb05 : Below wB.heap.size wB w5 := (Below.refl wB.heap.size wB).drew.trans hb5; have s5 := HKP.out _ hb05))
            all_goals
              go_step
              go_step
              go_meet
              case rel => exact ⟨by first | rfl | simp, hb05⟩
          case rest =>
            obtain ⟨hv, hbC⟩ := hcut
            subst hv
            generalize wc = wC at *
            have kxC := HKX.out.below hbC
            have k7C := HK7'.out.below hbC
            have k8C := HK8'.out.below hbC
            have hMxC := HM9'.out.below hbC
            have hM8C := HM6.out.below hbC
            have hB3 : Below B W0 wC := HB2.out.1.trans (hbC.mono (by have := HK7'.out.lt; omega))
            have hBw3 : Below w.heap.size w wC := HB2.out.2.trans (hbC.mono HB2.out.2.size)
            have x0 := kxC.cell 0
            have x1 := kxC.cell 1
            have x2 := kxC.cell 2
            have z0 := k7C.cell 0
            have z1 := k7C.cell 1
            have z2 := k7C.cell 2
            have zf0 := k7C.frozen 0
            have zf1 := k7C.frozen 1
            have zf2 := k7C.frozen 2
            have HX := Lib.hid (And.intro kxC (And.intro k7C (And.intro k8C (And.intro hMxC (And.intro hM8C (And.intro hB3 hBw3))))))
            clear kxC k7C k8C hMxC hM8C hB3 hBw3 hbC
            go_wp2
            go_roundw
            case rel =>
              obtain ⟨kxC, k7C, k8C, hMxC, hM8C, hB3, hBw3⟩ := HX.out
              have hF6 := Frm.setCell (p := fun k => k = B) (Frm.setCell (p := fun k => k = B) (Frm.setCell (p := fun k => k = B) (Frm.refl _ wC) 0 (.inl rfl) (.int .i64 (y.await : Int))) 1 (.inl rfl) (.slice o9 n9 c9)) 2 (.inl rfl) (.bool y.body)
              refine ⟨i + 1, te, y, pre ++ [(⟨tk, tf, te, top⟩, y)], o9, n9, c9, o6, n6, c6, by go_num, ?_, hk3, HGN.out, ((k7C.set 0 _).set 1 _).set 2 _, k8C.frm hF6 (fun e => by have e' : B + 1 = B := e; omega), hMxC.keepB k7C no_str3 hF6, hM8C.keepB k7C no_str3 hF6, HHH.out.2, HHH.out.1.2, HHH.out.1.1, hB3.trans (hF6.below (by have := k7C.lt; omega) (fun k hk => by have e' : k = B := hk; omega)), hBw3.trans (hF6.below hBw3.size (fun k hk => by have e' : k = B := hk; have := HBW0.out.size; have := HB.out; omega))⟩
              rw [List.length_append, HPL.out]; rfl
            case measure => simp [intOf]; omega
    · have hNi := HES.out p x pre HLS.out hlt
      rw [HPL.out] at hNi
      have q1 : ¬ (i : Int) < (N : Int) := by omega
      have HBW1 := Lib.hid hBw
      by_cases ho : 0 ≤ out ∧ out < (s.size : Int)
      · obtain ⟨u1, u2⟩ := ho
        clear hNi hlt hkS h7 h8 hM7 hM8
        go_wp2
        go_ret
        exact ⟨rfl, HBW1.out⟩
      · have HTO := Lib.hid (tstep_out wr x o7 n7 c7 hM7 s (by omega) (HTX.out.b hBw) (by omega) haw out (by omega))
        unfold aggL at HTO
        have x0 := h7.cell 0
        have x1 := h7.cell 1
        have x2 := h7.cell 2
        have H7 := Lib.hid h7
        have HM7 := Lib.hid hM7
        have hxl : x.pend.length ≤ 1000000 := by omega
        have heq := eql_tkp 0 0 0 false
        have hcase : (¬ 0 ≤ out) ∨ (0 ≤ out ∧ ¬ out < (s.size : Int)) := by omega
        clear hNi hlt hkS h7 h8 hM7 hM8 ho
        rcases hcase with u1 | ⟨u1, u2⟩
        all_goals
          go_wp2_with fail
          refine (HTO.out).mono ?_
          rintro e w5 ⟨oa5, c5, rfl, hM5, hb5⟩
          obtain ⟨W6, hW6⟩ : ∃ Z, (w5.alloc (.cells #[.int .i64 0, .int .i64 0, .int .i64 0, .bool false] 33)).alloc (.cells #[.int .i64 (x.await : Int), .slice oa5 n7 c5, .bool x.body] 26) = Z := ⟨_, rfl⟩
          have hb6 : Below w5.heap.size w5 W6 := by rw [← hW6]; exact below_a2' w5 _ _
          have kt6 : Blk W6 w5.heap.size #[.int .i64 0, .int .i64 0, .int .i64 0, .bool false] 33 := by rw [← hW6]; exact (Blk.new w5 _ _).alloc _
          have kx6 : Blk W6 (w5.heap.size + 1) #[.int .i64 (x.await : Int), .slice oa5 n7 c5, .bool x.body] 26 := by rw [← hW6]; exact blk_a2 w5 _ _ _
          have k76 := (H7.out.below hb5).below hb6
          have hM56 := hM5.below hb6
          have hM76 := (HM7.out.below hb5).below hb6
          have HSM := Lib.hid (rsame_any W6 x.pend x.pend oa5 o7 n7 n7 c5 c7 hM56.rdd hM76.rdd (by have := hM56.len; omega) (by have := hM76.len; omega) (x.await : Int) (x.await : Int) x.body x.body)
          rw [sameX_refl] at HSM
          have HB6 := Lib.hid ((HBW1.out.trans (hb5.mono HBW1.out.size)).trans (hb6.mono (Nat.le_trans HBW1.out.size hb5.size)))
          have t0 := kt6.cell 0
          have t1 := kt6.cell 1
          have t2 := kt6.cell 2
          have t3 := kt6.cell 3
          have y0 := kx6.cell 0
          have y1 := kx6.cell 1
          have y2 := kx6.cell 2
          have z0 := k76.cell 0
          have z1 := k76.cell 1
          have z2 := k76.cell 2
          clear kt6 kx6 k76 hM56 hM76 hM5 hb5 hb6 x0 x1 x2
          go_upto_region 18 with fail
          try rw [hW6]
          go_wp2_with fail
          refine (HSM.out).mono ?_
          rintro e w7 ⟨rfl, hb7⟩
          go_wp2
          go_ret
          exact ⟨by first | rfl | simp, HB6.out.trans (hb7.mono HB6.out.size)⟩
set_option maxRecDepth 100000 in
set_option maxHeartbeats 4000000 in
theorem tokenStep_law (s : ByteArray) (out : Int) (hz : s.size ≤ 9223372036854775807) :
    Calls Tryz.prog 5 #[.string s, .int .i64 out] w fun e w' => e = .returned (.bool true) ∧ Below w.heap.size w w' := by
  by_cases hs : s.size ≤ 150
  · exact tokenStep_in w hT s out hs
  · have HAW := Lib.hid (awake9_any w hT)
    have hi : (150 : Int) < (s.size : Int) := by omega
    clear hT
    go_enter Tryz.func5, Tryz.ntmps5
    go_wp2_with fail
    refine (HAW.out).mono ?_
    rintro e w1 ⟨rfl, hb1⟩
    go_wp2
    go_ret
    exact ⟨rfl, hb1⟩
end
end Go.Proofs.YtgfkbfojeohlkaaGreatDoor

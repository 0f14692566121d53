/- What Step of layer 9 (token) returns, and the library's Clone at delimiters. Condition: texts of at most 900 bytes; the program's table of operators lies as start-up lays it. -/
import Derived.Test.YtdjcidackkogjaaGreatDoorQn
import Derived.Lib.SliceRun
namespace Go.Proofs.YtdjcidackkogjaaGreatDoor
open Go.RowKit
set_option linter.unusedVariables false
set_option linter.unusedSectionVars false

theorem own_cap {w : World} {base : Nat} {e : TypeId} {k n : Nat} {oa : Option Addr} {c m : Nat} {xs : List Value} (h : w.ownsRow base e k (.slice oa m c) n xs) : n ≤ c := by
  rcases h.2 with ⟨h1, h2⟩ | ⟨g, cap, cur, h1, h2, h3, h4, h5⟩
  · omega
  · injection h1 with _ _ e3
    omega
section
variable (w : World) (l : List Dl) (oa : Option Addr) (n c : Nat) (hS : Src w (.slice oa n c) n (cellsD l)) (hn : n = l.length) (hl : n ≤ 900000)
include hS hn hl
set_option maxHeartbeats 4000000 in
theorem cloneD_any : Calls Tryz.prog 61 #[.slice oa n c] w fun e w' => ∃ oa' c', e = .returned (.slice oa' n c') ∧ w'.ownsRow w.heap.size 87 2 (.slice oa' n c') n (cellsD l) ∧ Below w.heap.size w w' := by
  have HS := Lib.hid hS
  have HN := Lib.hid hn
  rcases hS with ⟨h1, h2, h3⟩ | ⟨b, off, c2, h1, h2, h3⟩
  · injection h1 with e1 e2 e3
    have H3 := Lib.hid h3
    subst e1 e3
    subst h2
    clear hn h3
    have heq := Lib.run_eql_slice_nil (P := Tryz.prog) w 48 87 none 0 0 0 0 Tryz.underlying48
    go_enter Tryz.func61, Tryz.ntmps61
    go_wp2
    go_ret
    refine ⟨_, _, rfl, ?_, Below.refl _ _⟩
    rw [H3.out]
    exact World.ownsRow_nil _ _ _ _
  · injection h1 with e1 e2 e3
    subst e1
    clear hn e3 h3
    have heq := Lib.run_eql_slice_nil (P := Tryz.prog) w 48 87 (some ⟨b, off, none⟩) n c 0 0 Tryz.underlying48
    go_enter Tryz.func61, Tryz.ntmps61
    go_wp2_with (at_builtin; refine wpl_app_gen rfl _ _ 48 87 2 24 _ rfl Tryz.underlying48 infoDl rfl (by omega) (by omega) w.heap.size (.slice (some ⟨w.heap.size, 0, none⟩) 0 0) 0 [] rfl (own_none2 w) _ n (cellsD l) rfl (HS.out.below ((Below.refl _ _).alloc (Nat.le_refl _) _)) (cellsD_len2 HN.out) (cellsD_one l) (by omega) (by rw [World.size_alloc]; exact Nat.le_succ _) n (Nat.zero_add n) ?_; intro oa8 c8 w8 hown8 hgr8 hg8)
    go_ret
    exact ⟨_, _, rfl, hown8, ((Below.refl w.heap.size w).alloc (Nat.le_refl _) (.cells #[] 87)).grown hgr8 (by rw [World.size_alloc]; exact Nat.le_succ _) (fun k hk => by have : w.heap.size = k := (by injection hk); omega)⟩
end
theorem LxM.of_own {W : World} {base : Nat} {oa : Option Addr} {n c : Nat} {x : Lx} (h : W.ownsRow base 87 2 (.slice oa n c) n (cellsD x.pend)) (hn : n = x.pend.length) (hb : 1 ≤ base) : LxM W (.slice oa n c) x := by
  have hcap := own_cap h
  have hlt := own_lt h
  have hge := own_ge h
  subst hn
  exact ⟨Src.of_own h, fun _ => own_lower h hb, fun g hg => ⟨by have := hge g hg; omega, hlt g hg⟩, ⟨oa, c, rfl, hcap⟩⟩
section
variable (w : World) (x : Lx) (oa : Option Addr) (n c : Nat) (hM : LxR w (.slice oa n c) x) (s : ByteArray) (hs : s.size ≤ 900) (hT : Tx w) (hpl : x.pend.length ≤ 800000) (haw : x.await ≤ 1000)
include hM hs hT hpl haw
set_option maxRecDepth 100000 in
set_option maxHeartbeats 8000000 in
theorem tstep_in (a : Nat) (ha : a < s.size) :
    Calls Tryz.prog 77 #[.string s, .int .i64 (a : Int), aggL x (.slice oa n c)] w fun e w' => ∃ oa' n' c', e = .returned (.tuple #[aggT (tkN s a x), aggL (nxN s a x) (.slice oa' n' c')]) ∧ LxR w' (.slice oa' n' c') (nxN s a x) ∧ Below w.heap.size w w' := by
  have hn : n = x.pend.length := by
    obtain ⟨oa', c', he, _⟩ := hM.cap
    injection he
  have hB0 := below_a3 w (.cells #[.int .i64 (x.await : Int), .slice oa n c, .bool x.body] 50) (.cells #[.int .i64 0, .int .i64 0, .int .i64 0, .bool false] 44) (.cells #[.int .i64 0, .slice none 0 0, .bool false] 50)
  have hst := StB.new w (x.await : Int) (.slice oa n c) x.body
  have hcl : ∀ W, Below w.heap.size w W → _ := fun W hW => cloneD_any W x.pend oa n c (by have := (hM.below hW).src; rw [← hn] at this; exact this) hn (by omega)
  have HCL := Lib.hid hcl
  have hnx : ∀ W oa' c', Below w.heap.size w W → LxM W (.slice oa' n c') x → _ := fun W oa' c' hW hL => next_any W x oa' n c' s a ha hs (hT.b hW) hL hpl haw
  have HNX := Lib.hid hnx
  have HN := Lib.hid hn
  have hw1 : 1 ≤ w.heap.size := hT.1
  unfold aggL at HNX ⊢
  generalize tkN s a x = t at *
  generalize nxN s a x = y at *
  obtain ⟨A, pd, bd⟩ := x
  obtain ⟨tk, tf, te, top⟩ := t
  unfold aggT at HNX ⊢
  dsimp only at hst hB0 HCL HNX HN ⊢
  have q0 : ¬ (a : Int) < 0 := by omega
  have q1 : ¬ (s.size : Int) ≤ (a : Int) := by omega
  have q2 : (a : Int) < (s.size : Int) := by omega
  have kb1 := hst.kb.cell 1
  have kf1 := hst.kb.frozen 1
  clear hcl hnx hn hM hT hpl haw
  go_enter Tryz.func77, Tryz.ntmps77
  go_wp2_with fail
  obtain ⟨W, hW⟩ : ∃ X, (((w.alloc (.cells #[.int .i64 (A : Int), .slice oa n c, .bool bd] 50)).alloc (.cells #[.int .i64 0, .int .i64 0, .int .i64 0, .bool false] 44)).alloc (.cells #[.int .i64 0, .slice none 0 0, .bool false] 50)) = X := ⟨_, rfl⟩
  obtain ⟨Bx, hBx⟩ : ∃ z, w.heap.size = z := ⟨_, rfl⟩
  rw [hW] at hst kb1 kf1 hB0 ⊢
  rw [hBx] at hst kb1 kf1 ⊢
  have HBX := Lib.hid hBx
  clear hW hBx
  refine (HCL.out _ hB0).mono ?_
  rintro e w1 ⟨oa1, c1, rfl, ho1, hb1⟩
  have hst1 := hst.below hb1
  have a1 := hst1.kb.cell 1
  have f1 := hst1.kb.frozen 1
  clear kb1 kf1
  have hkl := hst1.kr.lt
  have hF : Frm (fun b => b = Bx) w1 (w1.setCell ⟨Bx, 1, none⟩ (.slice oa1 n c1)) := Frm.setCell (p := fun b => b = Bx) (Frm.refl _ w1) 1 (.inl rfl) _
  have hWl : Bx + 3 ≤ W.heap.size := by have := hst.kr.lt; omega
  have hge1 := own_ge ho1
  have ho2 := own_frm hF ho1 (fun g hg hh => by have := hge1 g hg; omega)
  have kb2 := hst1.kb.set 1 (.slice oa1 n c1)
  have kt2 := hst1.kt.other 1 (.slice oa1 n c1) (b' := Bx) (by omega)
  have kr2 := hst1.kr.other 1 (.slice oa1 n c1) (b' := Bx) (by omega)
  have hBl2 : Below w.heap.size w (w1.setCell ⟨Bx, 1, none⟩ (.slice oa1 n c1)) := hst1.bl.setCell (p := ⟨Bx, 1, none⟩) (by have := HBX.out; show w.heap.size ≤ Bx; omega) _
  go_upto_region 2 with fail
  obtain ⟨W2, hW2⟩ : ∃ Y, w1.setCell ⟨Bx, 1, none⟩ (.slice oa1 n c1) = Y := ⟨_, rfl⟩
  rw [hW2] at ho2 kb2 kt2 kr2 hBl2 hF ⊢
  clear hW2 a1 f1 ho1
  have kb2' : Blk W2 Bx #[.int .i64 (A : Int), .slice oa1 n c1, .bool bd] 50 := kb2
  have hL := LxM.of_own (x := ⟨A, pd, bd⟩) ho2 HN.out (by omega)
  have hnx2 := HNX.out W2 oa1 c1 hBl2 hL
  have HNX2 := Lib.hid hnx2
  have HL := Lib.hid hL
  have HGE := Lib.hid hge1
  have b0 := kb2'.cell 0
  have b1 := kb2'.cell 1
  have b2 := kb2'.cell 2
  clear hnx2 hL hge1 kb2 ho2 hF
  go_wp2_with fail
  refine (HNX2.out).mono ?_
  rintro e w3 ⟨oa3, n3, c3, rfl, hM3, hF3, hg3⟩
  have hlt2 : Bx + 3 ≤ W2.heap.size := by have := kr2.lt; omega
  have hnb : ∀ b, b ≤ Bx + 1 + 1 → ¬ (Value.slice oa1 n c1).ownBlock = some b := fun b hb e => by have := HGE.out b e; omega
  have kt3 := kt2.frm hF3 (hnb _ (by omega))
  have kr3 := kr2.frm hF3 (hnb _ (by omega))
  have t0 := kt3.cell 0
  have t1 := kt3.cell 1
  have t2 := kt3.cell 2
  have t3 := kt3.cell 3
  have tf0 := kt3.frozen 0
  have tf1 := kt3.frozen 1
  have tf2 := kt3.frozen 2
  have tf3 := kt3.frozen 3
  have r0 := kr3.cell 0
  have r1 := kr3.cell 1
  have r2 := kr3.cell 2
  have rf0 := kr3.frozen 0
  have rf1 := kr3.frozen 1
  have rf2 := kr3.frozen 2
  have HM3 := Lib.hid hM3
  have HG3 := Lib.hid hg3
  clear hM3 hg3
  have hBl3 : Below w.heap.size w w3 := hBl2.trans (hF3.below hBl2.size (fun k hk => by have := HGE.out k hk; have := HBX.out; omega))
  go_wp2
  have hst3 : StB w (A : Int) (.slice oa n c) bd Bx w3 → True := fun _ => trivial
  have e6 := (((kt3.set 0 (.int .i64 (tk : Int))).set 1 (.int .i64 (tf : Int))).set 2 (.int .i64 (te : Int))).set 3 (.bool top)
  have f6 := ((e6.other 0 (.int .i64 (y.await : Int)) (b' := Bx + 1 + 1) (by omega)).other 1 (.slice oa3 n3 c3) (b' := Bx + 1 + 1) (by omega)).other 2 (.bool y.body) (b' := Bx + 1 + 1) (by omega)
  have e7 := (((kr3.other 0 (.int .i64 (tk : Int)) (b' := Bx + 1) (by omega)).other 1 (.int .i64 (tf : Int)) (b' := Bx + 1) (by omega)).other 2 (.int .i64 (te : Int)) (b' := Bx + 1) (by omega)).other 3 (.bool top) (b' := Bx + 1) (by omega)
  have f7 := ((e7.set 0 (.int .i64 (y.await : Int))).set 1 (.slice oa3 n3 c3)).set 2 (.bool y.body)
  have hF4 : Frm (fun b => b = Bx + 1 ∨ b = Bx + 1 + 1) w3 (((((((w3.setCell ⟨Bx + 1, 0, none⟩ (.int .i64 (tk : Int))).setCell ⟨Bx + 1, 1, none⟩ (.int .i64 (tf : Int))).setCell ⟨Bx + 1, 2, none⟩ (.int .i64 (te : Int))).setCell ⟨Bx + 1, 3, none⟩ (.bool top)).setCell ⟨Bx + 1 + 1, 0, none⟩ (.int .i64 (y.await : Int))).setCell ⟨Bx + 1 + 1, 1, none⟩ (.slice oa3 n3 c3)).setCell ⟨Bx + 1 + 1, 2, none⟩ (.bool y.body)) :=
    (((((((Frm.refl _ w3).setCell 0 (.inl (.inl rfl)) _).setCell 1 (.inl (.inl rfl)) _).setCell 2 (.inl (.inl rfl)) _).setCell 3 (.inl (.inl rfl)) _).setCell 0 (.inl (.inr rfl)) _).setCell 1 (.inl (.inr rfl)) _).setCell 2 (.inl (.inr rfl)) _
  obtain ⟨W5, hW5⟩ : ∃ X, ((((((w3.setCell ⟨Bx + 1, 0, none⟩ (.int .i64 (tk : Int))).setCell ⟨Bx + 1, 1, none⟩ (.int .i64 (tf : Int))).setCell ⟨Bx + 1, 2, none⟩ (.int .i64 (te : Int))).setCell ⟨Bx + 1, 3, none⟩ (.bool top)).setCell ⟨Bx + 1 + 1, 0, none⟩ (.int .i64 (y.await : Int))).setCell ⟨Bx + 1 + 1, 1, none⟩ (.slice oa3 n3 c3)).setCell ⟨Bx + 1 + 1, 2, none⟩ (.bool y.body) = X := ⟨_, rfl⟩
  rw [hW5] at f6 f7 hF4 ⊢
  have h0 : W5.cell? ⟨Bx + 1, 0, none⟩ = some (.int .i64 (tk : Int)) := f6.cell 0
  have h1 : W5.cell? ⟨Bx + 1, 1, none⟩ = some (.int .i64 (tf : Int)) := f6.cell 1
  have h2 : W5.cell? ⟨Bx + 1, 2, none⟩ = some (.int .i64 (te : Int)) := f6.cell 2
  have h3 : W5.cell? ⟨Bx + 1, 3, none⟩ = some (.bool top) := f6.cell 3
  have i0 : W5.cell? ⟨Bx + 1 + 1, 0, none⟩ = some (.int .i64 (y.await : Int)) := f7.cell 0
  have i1 : W5.cell? ⟨Bx + 1 + 1, 1, none⟩ = some (.slice oa3 n3 c3) := f7.cell 1
  have i2 : W5.cell? ⟨Bx + 1 + 1, 2, none⟩ = some (.bool y.body) := f7.cell 2
  refine bodyPost_ret (v := .tuple #[.agg #[.int .i64 (tk : Int), .int .i64 (tf : Int), .int .i64 (te : Int), .bool top], .agg #[.int .i64 (y.await : Int), .slice oa3 n3 c3, .bool y.body]]) (by simp [results, Tryz.results77, go_sem, h0, h1, h2, h3, i0, i1, i2]) rfl ?_
  refine ⟨oa3, n3, c3, rfl, (HM3.out.frm hF4 (fun g hg hh => ?_)).rd, hBl3.trans (hF4.below hBl3.size (fun b hb => by have := HBX.out; omega))⟩
  rcases HG3.out g hg with q | q
  · have := HGE.out g q; omega
  · omega
end
theorem LxR.keepB {W W' : World} {pv : Value} {x : Lx} {B : Nat} {cs : Array Value} {t : TypeId} (h : LxR W pv x) (hB : Blk W B cs t) (hcs : ∀ (j : Nat) (u : ByteArray), cs[j]? ≠ some (.string u)) (hF : Frm (fun k => k = B) W W') : LxR W' pv x := by
  refine ⟨?_, h.cap⟩
  rcases h.src with q | ⟨g, off, c2, h1, h2, h3⟩
  · exact .inl q
  · refine .inr ⟨g, off, c2, h1, Nat.lt_of_lt_of_le h2 hF.size, fun j u hj => ?_⟩
    by_cases e : g = B
    · exfalso
      subst e
      obtain ⟨d, ds, hp⟩ : ∃ d ds, x.pend = d :: ds := by
        cases hx : x.pend with
        | nil => rw [hx] at hj; cases hj
        | cons d ds => exact ⟨d, ds, rfl⟩
      have hs := h3 0 (.string d.word) (by rw [hp, cellsD_cons]; rfl)
      rw [Nat.add_zero, hB.cell off] at hs
      exact hcs _ _ hs
    · exact (hF.cell (a := ⟨g, off + j, none⟩) h2 e).trans (h3 j u hj)
theorem no_str4 {a b c : Int} {d : Bool} (j : Nat) (u : ByteArray) : (#[.int .i64 a, .int .i64 b, .int .i64 c, .bool d] : Array Value)[j]? ≠ some (.string u) := by
  match j with
  | 0 => simp
  | 1 => simp
  | 2 => simp
  | 3 => simp
  | k + 4 => simp
theorem no_str3 {a : Int} {o : Option Addr} {n c : Nat} {d : Bool} (j : Nat) (u : ByteArray) : (#[.int .i64 a, .slice o n c, .bool d] : Array Value)[j]? ≠ some (.string u) := by
  match j with
  | 0 => simp
  | 1 => simp
  | 2 => simp
  | k + 3 => simp
end Go.Proofs.YtdjcidackkogjaaGreatDoor

/- One step of a reader's mark, plainly. No condition: nothing here speaks of the program.
What step of a reader of layer 10 (relex) returns. Condition: texts of at most 900 bytes; the program's table of operators lies as start-up lays it. -/
import Derived.Test.YtdjcidackkogjaaGreatDoorRa
import Derived.Test.YtdjcidackkogjaaGreatDoorRc
import Derived.Test.YtdjcidackkogjaaGreatDoorQr
import Derived.Deep.RegionLawGrows
namespace Go.Proofs.YtdjcidackkogjaaGreatDoor
open Go.RowKit
set_option linter.unusedVariables false

theorem mkL_all {m : Mk} {F : List Dl} (h : m.en = F.length) : (mkL m F).pend = F.drop m.frm := by
  show (F.take m.en).drop m.frm = _
  rw [h, List.take_length]
theorem stp_push {T : ByteArray} {a : Nat} {m : Mk} {F : List Dl} (he : m.en = F.length) (hm : m.frm ≤ m.en) (hb : (mkL m F).body = true → (mkL m F).pend ≠ []) (h : pushN T a (mkL m F) = 1) {d : Dl} (hd : (nxN T a (mkL m F)).pend = (mkL m F).pend ++ [d]) :
    Stp T (F ++ [d]) a m ⟨(nxN T a (mkL m F)).await, (nxN T a (mkL m F)).body, m.frm, m.en + 1⟩ := by
  have hX : mkL m (F ++ [d]) = mkL m F := mkL_take (by rw [he, List.take_append_of_le_length (Nat.le_refl _)])
  have hc := (nx_counts (s := T) (a := a) hb).2.1
  have hp0 : popN T a (mkL m F) = 0 := by omega
  refine ⟨Nat.le_succ_of_le hm, ?_, ?_, ?_, ?_⟩
  · rw [List.length_append, ← he]; exact Nat.le_refl _
  · rw [hX, hp0]; rfl
  · rw [hX, h]
  · rw [hX]
    have e : (mkL (⟨(nxN T a (mkL m F)).await, (nxN T a (mkL m F)).body, m.frm, m.en + 1⟩ : Mk) (F ++ [d])).pend = (nxN T a (mkL m F)).pend := by
      rw [mkL_all (by rw [List.length_append, ← he]; rfl), hd, mkL_all he]
      show (F ++ [d]).drop m.frm = _
      rw [List.drop_append_of_le_length (by omega)]
    show (⟨_, (mkL (⟨(nxN T a (mkL m F)).await, (nxN T a (mkL m F)).body, m.frm, m.en + 1⟩ : Mk) (F ++ [d])).pend, _⟩ : Lx) = _
    rw [e]
theorem stp_pop {T : ByteArray} {a : Nat} {m : Mk} {F : List Dl} (he : m.en = F.length) (hm : m.frm ≤ m.en) (hb : (mkL m F).body = true → (mkL m F).pend ≠ []) (h : popN T a (mkL m F) = 1) :
    Stp T F a m ⟨(nxN T a (mkL m F)).await, (nxN T a (mkL m F)).body, m.frm + 1, m.en⟩ ∧ m.frm + 1 ≤ m.en := by
  have hc := nx_counts (s := T) (a := a) hb
  have hp0 : pushN T a (mkL m F) = 0 := by omega
  obtain ⟨h1, h2⟩ := hc.2.2.1 h
  have hl : m.frm + 1 ≤ m.en := by
    rw [mkL_all he] at h2
    rcases Nat.lt_or_ge m.frm F.length with g | g
    · omega
    · exact absurd (List.drop_eq_nil_of_le g) h2
  refine ⟨⟨hl, by show m.en ≤ F.length; omega, by rw [h], by rw [hp0]; rfl, ?_⟩, hl⟩
  have e : (mkL (⟨(nxN T a (mkL m F)).await, (nxN T a (mkL m F)).body, m.frm + 1, m.en⟩ : Mk) F).pend = (nxN T a (mkL m F)).pend := by
    have e0 := mkL_all (m := (⟨(nxN T a (mkL m F)).await, (nxN T a (mkL m F)).body, m.frm + 1, m.en⟩ : Mk)) (F := F) he
    rw [e0, h1, mkL_all he]
    show F.drop (m.frm + 1) = _
    rw [List.tail_drop]
  show (⟨_, (mkL (⟨(nxN T a (mkL m F)).await, (nxN T a (mkL m F)).body, m.frm + 1, m.en⟩ : Mk) F).pend, _⟩ : Lx) = _
  rw [e]
theorem stp_none {T : ByteArray} {a : Nat} {m : Mk} {F : List Dl} (he : m.en = F.length) (hm : m.frm ≤ m.en) (hb : (mkL m F).body = true → (mkL m F).pend ≠ []) (h0 : popN T a (mkL m F) = 0) (h1 : pushN T a (mkL m F) = 0) :
    Stp T F a m ⟨(nxN T a (mkL m F)).await, (nxN T a (mkL m F)).body, m.frm, m.en⟩ := by
  obtain ⟨l, h2, h3⟩ := (nx_counts (s := T) (a := a) hb).2.2.2 h0
  have hl : l = [] := List.eq_nil_of_length_eq_zero (by omega)
  rw [hl, List.append_nil] at h2
  refine ⟨hm, by show m.en ≤ F.length; omega, by rw [h0]; rfl, by rw [h1]; rfl, ?_⟩
  show (⟨_, (mkL m F).pend, _⟩ : Lx) = _
  rw [← h2]
def two (x : Lx) : Lx := ⟨x.await, x.pend.take 2, x.body⟩
theorem two_len (x : Lx) : (two x).pend.length = min x.pend.length 2 := by
  show (x.pend.take 2).length = _
  rw [List.length_take, Nat.min_comm]
theorem two_body {x : Lx} (hb : x.body = true → x.pend ≠ []) : (two x).body = true → (two x).pend ≠ [] := fun h e => by
  have h1 := hb h
  have e' : x.pend.take 2 = [] := e
  cases hx : x.pend with
  | nil => exact h1 hx
  | cons d l => rw [hx] at e'; cases e'
theorem nx_body {s : ByteArray} {a : Nat} {x : Lx} (h : x.body = true → x.pend ≠ []) : (nxN s a x).body = true → (nxN s a x).pend ≠ [] := by
  intro hb e
  unfold nxN lxN at hb e
  generalize (tkN s a x).kind = k at hb e
  generalize (tkN s a x).op = o at hb e
  generalize s.extract (tkN s a x).frm (tkN s a x).en = tx at hb e
  by_cases k7 : k = 7
  · rw [if_pos k7] at hb e
    cases o with
    | true => exact h hb e
    | false =>
      have e' : x.pend.tail = [] := e
      have hb' : (!x.pend.tail.isEmpty && x.body) = true := hb
      rw [e'] at hb'
      cases hb'
  rw [if_neg k7] at hb e
  by_cases k1 : k = 1
  · rw [if_pos k1] at hb e; exact h hb e
  rw [if_neg k1] at hb e
  by_cases k2 : k = 2
  · rw [if_pos k2] at hb e
    have e' : x.pend = [] := e
    have hb' : (!x.pend.isEmpty) = true := hb
    rw [e'] at hb'
    cases hb'
  rw [if_neg k2] at hb e
  by_cases k4 : k = 4
  · rw [if_pos k4] at hb e; exact h hb e
  rw [if_neg k4] at hb e
  by_cases k6 : k = 6 ∧ x.await ≠ 0
  · rw [if_pos k6] at hb e
    have e' : x.pend ++ [_] = [] := e
    simp at e'
  · rw [if_neg k6] at hb e; exact h hb e
end Go.Proofs.YtdjcidackkogjaaGreatDoor
namespace Go.Proofs.YtdjcidackkogjaaGreatDoor
open Go.RowKit
set_option linter.unusedVariables false
set_option linter.unusedSectionVars false

structure RdS (W : World) (base b rb : Nat) (T : ByteArray) (a : Nat) (m : Mk) (F : List Dl) (og : Option Addr) (ng cg : Nat) (df : Int) : Prop where
  blk : Blk W rb (rdCells b T a m (.slice og ng cg) df) 97
  del : Src W (.slice og ng cg) ng (cellsD F)
  ln : ng = F.length
  en : m.en = F.length
  le : m.frm ≤ m.en
  cap : ng ≤ cg
  ow : cg = ng ∨ W.ownsRow base 87 2 (.slice og ng cg) ng (cellsD F)
  db : ∀ g, (Value.slice og ng cg).ownBlock = some g → g ≠ rb
theorem keep5 {X : World} {g h b o : Nat} {v u1 u2 v0 v1 v2 : Value} (hB : g ≠ b ∧ h ≠ b) (hh : X.cell? ⟨g, 1, none⟩ = some u1 ∧ X.cell? ⟨g, 2, none⟩ = some u2 ∧ X.cell? ⟨h, 0, none⟩ = some v0 ∧ X.cell? ⟨h, 1, none⟩ = some v1 ∧ X.cell? ⟨h, 2, none⟩ = some v2) :
    (X.setCell ⟨b, o, none⟩ v).cell? ⟨g, 1, none⟩ = some u1 ∧ (X.setCell ⟨b, o, none⟩ v).cell? ⟨g, 2, none⟩ = some u2 ∧ (X.setCell ⟨b, o, none⟩ v).cell? ⟨h, 0, none⟩ = some v0 ∧ (X.setCell ⟨b, o, none⟩ v).cell? ⟨h, 1, none⟩ = some v1 ∧ (X.setCell ⟨b, o, none⟩ v).cell? ⟨h, 2, none⟩ = some v2 := by
  have e1 : ∀ j, (X.setCell ⟨b, o, none⟩ v).cell? ⟨h, j, none⟩ = X.cell? ⟨h, j, none⟩ := fun j => World.cell?_of_block (Below.heap_setCell X _ _ h hB.2)
  have e2 : ∀ j, (X.setCell ⟨b, o, none⟩ v).cell? ⟨g, j, none⟩ = X.cell? ⟨g, j, none⟩ := fun j => World.cell?_of_block (Below.heap_setCell X _ _ g hB.1)
  simp only [e1, e2]
  exact hh
theorem keep6 {X : World} {g b o : Nat} {v v3 v4 v5 v6 v7 : Value} (hB : g ≠ b) (hh : X.cell? ⟨g, 3, none⟩ = some v3 ∧ X.cell? ⟨g, 4, none⟩ = some v4 ∧ X.cell? ⟨g, 5, none⟩ = some v5 ∧ X.cell? ⟨g, 6, none⟩ = some v6 ∧ X.cell? ⟨g, 7, none⟩ = some v7) :
    (X.setCell ⟨b, o, none⟩ v).cell? ⟨g, 3, none⟩ = some v3 ∧ (X.setCell ⟨b, o, none⟩ v).cell? ⟨g, 4, none⟩ = some v4 ∧ (X.setCell ⟨b, o, none⟩ v).cell? ⟨g, 5, none⟩ = some v5 ∧ (X.setCell ⟨b, o, none⟩ v).cell? ⟨g, 6, none⟩ = some v6 ∧ (X.setCell ⟨b, o, none⟩ v).cell? ⟨g, 7, none⟩ = some v7 := by
  have e2 : ∀ j, (X.setCell ⟨b, o, none⟩ v).cell? ⟨g, j, none⟩ = X.cell? ⟨g, j, none⟩ := fun j => World.cell?_of_block (Below.heap_setCell X _ _ g hB)
  simp only [e2]
  exact hh
theorem LxR.two {W : World} {o : Option Addr} {k c : Nat} {X : Lx} (h : LxR W (.slice o k c) X) : LxR W (.slice o (min k 2) c) (two X) := by
  have hk := h.len
  have hcap : k ≤ c := by
    obtain ⟨o', c', e, hc⟩ := h.cap
    cases e
    omega
  have hs := h.src
  have e2 : cellsD (Go.Proofs.YtdjcidackkogjaaGreatDoor.two X).pend = (cellsD X.pend).take (min k 2 * 2) := by
    have := cellsD_seg (D := X.pend) (a := 0) (b := min k 2) (by omega)
    rw [List.drop_zero, Nat.zero_mul, List.drop_zero, Nat.sub_zero] at this
    rw [← this]
    show cellsD (X.pend.take 2) = _
    rw [hk]
    congr 1
    rw [Nat.min_comm]
    exact List.take_eq_take_min
  have hl : (Go.Proofs.YtdjcidackkogjaaGreatDoor.two X).pend.length = min k 2 := by rw [two_len, hk]
  refine ⟨?_, ⟨o, c, by rw [hl], by rw [hl]; omega⟩⟩
  rw [hl, e2]
  rcases hs with ⟨h1, h2, h3⟩ | ⟨g, off, c', h1, h2, h3⟩
  · cases h1
    exact .inl ⟨by simp, by simp, by rw [h3]; simp⟩
  · cases h1
    refine .inr ⟨g, off, c, rfl, h2, fun j u hj => h3 j u ?_⟩
    rw [List.getElem?_take] at hj
    split at hj
    · exact hj
    · cases hj
theorem LxR.keepC {W W' : World} {pv : Value} {x : Lx} {B : Nat} {cs : Array Value} {t : TypeId} (h : LxR W pv x) (hB : Blk W B cs t) (hcs : ∀ (j : Nat) (u : ByteArray) (v : Bool), cs[j]? = some (.string u) → cs[j + 1]? ≠ some (.bool v)) (hF : Frm (fun k => k = B) W W') : LxR W' pv x := by
  refine ⟨?_, h.cap⟩
  rcases h.src with q | ⟨g, off, c2, h1, h2, h3⟩
  · exact .inl q
  · refine .inr ⟨g, off, c2, h1, Nat.lt_of_lt_of_le h2 hF.size, fun j u hj => ?_⟩
    by_cases e : g = B
    · exfalso
      subst e
      obtain ⟨d, ds, hp⟩ : ∃ d ds, x.pend = d :: ds := by
        cases hx : x.pend with
        | nil => rw [hx] at hj; cases hj
        | cons d ds => exact ⟨d, ds, rfl⟩
      have hs := h3 0 (.string d.word) (by rw [hp, cellsD_cons]; rfl)
      have hs1 := h3 1 (.bool d.tabs) (by rw [hp, cellsD_cons]; rfl)
      rw [Nat.add_zero, hB.cell off] at hs
      rw [hB.cell (off + 1)] at hs1
      exact hcs _ _ _ hs hs1
    · exact (hF.cell (a := ⟨g, off + j, none⟩) h2 e).trans (h3 j u hj)
theorem no_rd {b at' A f e : Nat} {T : ByteArray} {bd : Bool} {og : Option Addr} {ng cg : Nat} {df : Int} (j : Nat) (u : ByteArray) (v : Bool) (h : (#[.pointer (some ⟨b, 0, none⟩), .string T, .int .i64 (at' : Int), .int .i64 (A : Int), .bool bd, .int .i64 (f : Int), .int .i64 (e : Int), .slice og ng cg, .int .i64 df] : Array Value)[j]? = some (.string u)) : (#[.pointer (some ⟨b, 0, none⟩), .string T, .int .i64 (at' : Int), .int .i64 (A : Int), .bool bd, .int .i64 (f : Int), .int .i64 (e : Int), .slice og ng cg, .int .i64 df] : Array Value)[j + 1]? ≠ some (.bool v) := by
  match j, h with
  | 0, h => simp at h
  | 1, h => simp
  | 2, h => simp at h
  | 3, h => simp at h
  | 4, h => simp at h
  | 5, h => simp at h
  | 6, h => simp at h
  | 7, h => simp at h
  | 8, h => simp at h
  | k + 9, h => simp at h
theorem rd_fin {W : World} {base b rb zt : Nat} {T : ByteArray} {te : Nat} {n : Mk} {F : List Dl} {og : Option Addr} {ng cg : Nat} {df : Int} (kr : Blk W rb (rdCells b T te n (.slice og ng cg) df) 97) (hsrc : Src W (.slice og ng cg) ng (cellsD F)) (hln : ng = F.length) (hen : n.en = F.length) (hle : n.frm ≤ n.en) (hcap : ng ≤ cg)
    (how : cg = ng ∨ W.ownsRow base 87 2 (.slice og ng cg) ng (cellsD F)) (hdb : ∀ g, (Value.slice og ng cg).ownBlock = some g → g ≠ rb ∧ g ≠ zt) (hzt : rb ≠ zt) (v0 v1 v2 v3 : Value) :
    RdS ((((W.setCell ⟨zt, 0, none⟩ v0).setCell ⟨zt, 1, none⟩ v1).setCell ⟨zt, 2, none⟩ v2).setCell ⟨zt, 3, none⟩ v3) base b rb T te n F og ng cg df := by
  have hF : Frm (fun k => k = zt) W ((((W.setCell ⟨zt, 0, none⟩ v0).setCell ⟨zt, 1, none⟩ v1).setCell ⟨zt, 2, none⟩ v2).setCell ⟨zt, 3, none⟩ v3) :=
    Frm.setCell (p := fun k => k = zt) (Frm.setCell (p := fun k => k = zt) (Frm.setCell (p := fun k => k = zt) (Frm.setCell (p := fun k => k = zt) (Frm.refl _ W) 0 (.inl rfl) _) 1 (.inl rfl) _) 2 (.inl rfl) _) 3 (.inl rfl) _
  refine ⟨kr.frm hF hzt, hsrc.frm hF (fun g hg e => (hdb g hg).2 e), hln, hen, hle, hcap, ?_, fun g hg => (hdb g hg).1⟩
  rcases how with h | h
  · exact .inl h
  · exact .inr (own_frm hF h (fun g hg e => (hdb g hg).2 e))
section
variable (w : World) (base b rb : Nat) (T : ByteArray) (a : Nat) (m : Mk) (F : List Dl) (og : Option Addr) (ng cg : Nat) (df : Int) (hR : RdS w base b rb T a m F og ng cg df) (hs : T.size ≤ 900) (ha : a < T.size) (hT : Tx w) (hFl : F.length ≤ 900) (haw : m.await ≤ 1000) (hbd : (mkL m F).body = true → (mkL m F).pend ≠ []) (hbs : rb < base ∧ base ≤ w.heap.size)
include hR hs ha hT hFl haw hbd hbs
set_option maxRecDepth 100000 in
set_option maxHeartbeats 16000000 in
theorem rdstep_any : Calls Tryz.prog 68 #[.pointer (some ⟨rb, 0, none⟩)] w fun e w' => e = .returned (aggT (tkN T a (mkL m F))) ∧ ∃ (n : Mk) (F' : List Dl) (og' : Option Addr) (ng' cg' : Nat), RdS w' base b rb T (tkN T a (mkL m F)).en n F' og' ng' cg' df ∧ Stp T F' a m n ∧ F'.take m.en = F ∧ n.await = (nxN T a (mkL m F)).await ∧ n.body = (nxN T a (mkL m F)).body ∧ Frm (fun k => k = rb ∨ (base ≤ k ∧ (Value.slice og ng cg).ownBlock = some k)) w w' ∧ (∀ g, (Value.slice og' ng' cg').ownBlock = some g → (Value.slice og ng cg).ownBlock = some g ∨ w.heap.size ≤ g) := by
  have hXl := mkL_len (m := m) (D := F) (by have := hR.en; omega)
  have hk2 := two_len (mkL m F)
  have htw : tkN T a (two (mkL m F)) = tkN T a (mkL m F) := tk_two
  have hnx := nx_two (s := T) (a := a) hbd
  have hok := tkN_ok (mkL m F) ha
  have hnk := nx_counts (s := T) (a := a) (two_body hbd)
  have HLXr := fun W (hW : Below w.heap.size w W) => lexing_any W m F og ng cg (hR.del.below hW) hR.ln hR.cap hR.le (by have := hR.en; have := hR.ln; omega)
  have hL1 : (mkL m F).await = m.await := rfl
  have hL2 : (mkL m F).body = m.body := rfl
  unfold aggL at HLXr
  rw [hL1, hL2] at HLXr
  have HR := Lib.hid hR
  have HTX := Lib.hid hT
  obtain ⟨X, hX⟩ : ∃ X, mkL m F = X := ⟨_, rfl⟩
  rw [hX] at hXl hk2 htw hnx hok hnk HLXr hL1 hL2 hbd ⊢
  have HX := Lib.hid hX
  obtain ⟨k, hk⟩ : ∃ k, m.en - m.frm = k := ⟨_, rfl⟩
  rw [hk] at hXl HLXr
  have hke : k ≤ 900 := by have := hR.en; omega
  obtain ⟨Mt, hMt⟩ : ∃ M, m = M := ⟨_, rfl⟩
  have HMT := Lib.hid hMt
  have kr := hR.blk
  obtain ⟨A, bd, f, e⟩ := m
  unfold rdCells at kr
  unfold aggM at HLXr
  dsimp only at HLXr kr hL1 hL2 hk haw
  have HLX := Lib.hid (fun W hW => (HLXr W hW).mono (fun e' w' h => (by
    obtain ⟨oa1, c1, h1, h2, h3⟩ := h
    exact ⟨_, h1, oa1, c1, rfl, h2, h3⟩ : ∃ v, e' = .returned v ∧ (∃ oa1 c1, v = .agg #[.int .i64 (A : Int), .slice oa1 k c1, .bool bd] ∧ LxR w' (.slice oa1 k c1) X ∧ Below W.heap.size W w'))))
  obtain ⟨W0, hW0⟩ : ∃ Z, w.alloc (.cells #[.int .i64 0, .int .i64 0, .int .i64 0, .bool false] 44) = Z := ⟨_, rfl⟩
  have hB0 : Below w.heap.size w W0 := by rw [← hW0]; exact (Below.refl _ _).alloc (Nat.le_refl _) _
  have kz : Blk W0 w.heap.size #[.int .i64 0, .int .i64 0, .int .i64 0, .bool false] 44 := by rw [← hW0]; exact Blk.new w _ _
  have kr0 := kr.below hB0
  have hkp : ∀ W, Below W0.heap.size W0 W → W.cell? ⟨rb, 3, none⟩ = some (.int .i64 (A : Int)) ∧ W.cell? ⟨rb, 4, none⟩ = some (.bool bd) ∧ W.cell? ⟨rb, 5, none⟩ = some (.int .i64 (f : Int)) ∧ W.cell? ⟨rb, 6, none⟩ = some (.int .i64 (e : Int)) ∧ W.cell? ⟨rb, 7, none⟩ = some (.slice og ng cg) := fun W hW => ⟨(kr0.below hW).cell 3, (kr0.below hW).cell 4, (kr0.below hW).cell 5, (kr0.below hW).cell 6, (kr0.below hW).cell 7⟩
  have HKP := Lib.hid hkp
  have e0 := hkp _ (Below.refl W0.heap.size W0).drew
  have ea := fun o => hkp _ (((Below.refl W0.heap.size W0).alloc (Nat.le_refl _) o).drew)
  have hrw : rb < w.heap.size := kr.lt
  have hz0 : w.heap.size < W0.heap.size := kz.lt
  have HW0 := Lib.hid hW0
  have HB0 := Lib.hid hB0
  have HKR0 := Lib.hid kr0
  have HKZ := Lib.hid kz
  have HPL := Lib.hid (And.intro hXl (And.intro hk2 (And.intro htw (And.intro hnx (And.intro hok (And.intro hnk (And.intro hL1 (And.intro hL2 hk))))))))
  have HBD := Lib.hid hbd
  clear HLXr hkp kr kr0 kz hB0 hW0 hX hMt hXl hk2 htw hnx hok hnk hL1 hL2 hk hR hT hbd
  go_enter Tryz.func68, Tryz.ntmps68
  go_upto_region 1 with fail
  rw [HW0.out]
  go_cut [3] from 6 to 14 (fun v wx => StT W0 wx A bd k X v)
  case first =>
    go_region_held_law (fun W => W.cell? ⟨rb, 3, none⟩ = some (.int .i64 (A : Int)) ∧ W.cell? ⟨rb, 4, none⟩ = some (.bool bd) ∧ W.cell? ⟨rb, 5, none⟩ = some (.int .i64 (f : Int)) ∧ W.cell? ⟨rb, 6, none⟩ = some (.int .i64 (e : Int)) ∧ W.cell? ⟨rb, 7, none⟩ = some (.slice og ng cg)) (((repeat (with_reducible (refine keep6 (by omega) ?_))); with_reducible (first | exact e0 | exact ea _ | exact s4 | exact s4a _))) (first
      | (refine step_call (by rfl) Tryz.func60 (by kernel_rfl) (by kernel_rfl) _ _ (by rfl) [.agg #[.int .i64 (A : Int), .bool bd, .int .i64 (f : Int), .int .i64 (e : Int)], .slice og ng cg] (by rfl) _ (HLX.out W0.drew HB0.out.drew) ?_; intro v w4 hh; obtain ⟨o9, c9, hv4, hM9, hb4⟩ := hh; subst hv4; have hb04 : Below W0.heap.size W0 w4 := (Below.refl W0.heap.size W0).drew.trans hb4; have s4 := HKP.out _ hb04; have s4a := fun o => HKP.out _ (hb04.alloc hb04.size o))
      | (refine step_call (by rfl) Tryz.func60 (by kernel_rfl) (by kernel_rfl) _ _ (by rfl) [.agg #[.int .i64 (A : Int), .bool bd, .int .i64 (f : Int), .int .i64 (e : Int)], .slice og ng cg] (by rfl) _ (HLX.out (W0.alloc (.cells #[.int .i64 0, .slice none 0 0, .bool false] 50)).drew (HB0.out.alloc HB0.out.size _).drew) ?_; intro v w4 hh; obtain ⟨o9, c9, hv4, hM9, hb4⟩ := hh; subst hv4; have hb0 := ((Below.refl W0.heap.size W0).alloc (Nat.le_refl _) (.cells #[.int .i64 0, .slice none 0 0, .bool false] 50)).drew; have hb04 : Below W0.heap.size W0 w4 := hb0.trans (hb4.mono hb0.size); have s4 := HKP.out _ hb04; have s4a := fun o => HKP.out _ (hb04.alloc hb04.size o); have kx := ((Blk.new W0 #[.int .i64 0, .slice none 0 0, .bool false] 50).drew).below hb4; have kxc0 := kx.cell 0; have kxc1 := kx.cell 1; have kxc2 := kx.cell 2; have kxf0 := kx.frozen 0; have kxf1 := kx.frozen 1; have kxf2 := kx.frozen 2))
    all_goals
      go_step
      go_step
      go_meet
      case rel =>
        first
          | with_reducible exact stt_new hb04 hM9
          | with_reducible exact stt_three hb04 hM9 kx (Nat.le_refl _)
  case rest =>
    obtain ⟨bx, o9, c9, rfl, kx, hM9, hb5, hge⟩ := hcut
    generalize wc = W1 at *
    have hM10 := hM9
    have ho9 : (o9 = none ∧ k = 0 ∧ c9 = 0) ∨ ∃ g off, o9 = some ⟨g, off, none⟩ := by
      rcases hM9.src with ⟨h1, h2, _⟩ | ⟨g, off, c, h1, _⟩
      · cases h1
        exact .inl ⟨rfl, by first | rfl | assumption | omega, rfl⟩
      · cases h1
        exact .inr ⟨g, off, rfl⟩
    have hkc : k ≤ c9 := by
      obtain ⟨o', c', e', hc⟩ := hM9.cap
      have hl := hM9.len
      injection e' with _ _ e4
      omega
    obtain ⟨k2, hk2'⟩ : ∃ k2, min k 2 = k2 := ⟨_, rfl⟩
    have hk2i : min (k : Int) 2 = (k2 : Int) := by omega
    have hk2k : k2 ≤ k := by omega
    have p0 : (0 : Int) ≤ (k2 : Int) := by omega
    have p1 : (k2 : Int) ≤ (c9 : Int) := by omega
    have x1 := kx.cell 1
    have f1 := kx.frozen 1
    have HKX := Lib.hid kx
    have HM9 := Lib.hid hM9
    have HK2 := Lib.hid hk2'
    have HB5 := Lib.hid hb5
    have hxl1 : bx < W1.heap.size := kx.lt
    clear hM9 hM10 kx hk2' hb5 e0 ea
    go_upto_region 2 with fail
    go_cut [] from 15 to 22 (fun wx => Blk wx bx #[.int .i64 (A : Int), .slice o9 k2 c9, .bool bd] 50 ∧ Frm (fun j => j = bx) W1 wx)
    case first =>
      rcases ho9 with ⟨rfl, rfl, rfl⟩ | ⟨g, off, rfl⟩
      · have hz : k2 = 0 := by omega
        subst hz
        go_wp2
        go_meet
        case rel => exact ⟨HKX.out.set 1 (.slice none 0 0), Frm.setCell (p := fun j => j = bx) (Frm.refl _ W1) 1 (.inl rfl) _⟩
      · go_wp2
        go_meet
        case rel => exact ⟨HKX.out.set 1 (.slice (some ⟨g, off, none⟩) k2 c9), Frm.setCell (p := fun j => j = bx) (Frm.refl _ W1) 1 (.inl rfl) _⟩
    case rest =>
      obtain ⟨kx2, hF2⟩ := hcut
      generalize wc = W2 at *
      have hM2 : LxR W2 (.slice o9 k2 c9) (two X) := by
        have := (HM9.out.keepB HKX.out no_str3 hF2).two
        rwa [HK2.out] at this
      have hbxw : w.heap.size < bx := by omega
      have hB2 : Below w.heap.size w W2 := (HB0.out.trans (HB5.out.mono HB0.out.size)).trans (hF2.below (Nat.le_trans HB0.out.size HB5.out.size) (fun j hj => by have e' : j = bx := hj; omega))
      have kr2 := (HKR0.out.below HB5.out).frm hF2 (fun e' => by have e'' : rb = bx := e'; omega)
      have kz2 := (HKZ.out.below HB5.out).frm hF2 (fun e' => by have e'' : w.heap.size = bx := e'; omega)
      obtain ⟨hXl, hk2, htw, hnx, hok, hnk, hL1, hL2, hk⟩ := HPL.out
      have HTS0 := fun W (hW : Below W2.heap.size W2 W) => tstep_in W (two X) o9 k2 c9 (hM2.below hW) T hs (HTX.out.b (hB2.trans (hW.mono hB2.size))) (by rw [hk2]; exact Nat.le_trans (Nat.min_le_right _ _) (by decide)) (by show X.await ≤ 1000; rw [hL1]; exact haw) a ha
      rw [htw] at HTS0
      obtain ⟨Y, hY⟩ : ∃ Y, nxN T a (two X) = Y := ⟨_, rfl⟩
      have hta : (two X).await = A := hL1
      have htb : (two X).body = bd := hL2
      unfold aggL aggT at HTS0
      rw [hY, hta, htb] at HTS0
      rw [hY] at hnk
      obtain ⟨t, ht⟩ : ∃ t, tkN T a X = t := ⟨_, rfl⟩
      rw [ht] at HTS0 hok
      have HT := Lib.hid ht
      have HY := Lib.hid hY
      obtain ⟨tk, tf, te, top⟩ := t
      dsimp only at HTS0 hok
      have HTS := Lib.hid (fun W hW => (HTS0 W hW).mono (fun e' w' h => (by
        obtain ⟨oa', n', c', h1, h2, h3⟩ := h
        exact ⟨_, h1, oa', n', c', rfl, h2, h3⟩ : ∃ v, e' = .returned v ∧ (∃ oa' n' c', v = .tuple #[.agg #[.int .i64 (tk : Int), .int .i64 (tf : Int), .int .i64 (te : Int), .bool top], .agg #[.int .i64 (Y.await : Int), .slice oa' n' c', .bool Y.body]] ∧ LxR w' (.slice oa' n' c') Y ∧ Below W.heap.size W w'))))
      have hkp : ∀ W, Below W2.heap.size W2 W → W.cell? ⟨rb, 1, none⟩ = some (.string T) ∧ W.cell? ⟨rb, 2, none⟩ = some (.int .i64 (a : Int)) ∧ W.cell? ⟨bx, 0, none⟩ = some (.int .i64 (A : Int)) ∧ W.cell? ⟨bx, 1, none⟩ = some (.slice o9 k2 c9) ∧ W.cell? ⟨bx, 2, none⟩ = some (.bool bd) := fun W hW => ⟨(kr2.below hW).cell 1, (kr2.below hW).cell 2, (kx2.below hW).cell 0, (kx2.below hW).cell 1, (kx2.below hW).cell 2⟩
      have hS0 := hkp _ (Below.refl W2.heap.size W2).drew
      have hSa := fun o => hkp _ (((Below.refl W2.heap.size W2).alloc (Nat.le_refl _) o).drew)
      have hSb := fun o p => hkp _ ((((Below.refl W2.heap.size W2).alloc (Nat.le_refl _) o).alloc (by rw [World.size_alloc]; exact Nat.le_succ _) p).drew)
      clear HKP
      have HKP := Lib.hid hkp
      have hrb2 : rb < W2.heap.size := kr2.lt
      have hbx2 : bx < W2.heap.size := kx2.lt
      have HKR2 := Lib.hid kr2
      have HKX2 := Lib.hid kx2
      have HKZ2 := Lib.hid kz2
      have HB2 := Lib.hid hB2
      have HPQ := Lib.hid (And.intro hok hnk)
      clear hkp HTS0 hM2 hF2 kr2 kx2 kz2 hB2 hXl hk2 htw hnx hok hnk hL1 hL2 hk ht hY hta htb x1 f1
      go_upto_region 3 with fail
      go_cut [4, 5] from 23 to 35 (fun v4 v5 wx => StC W2 wx (tk : Int) (tf : Int) (te : Int) top Y v4 v5)
      case first =>
        go_region_held_law (fun W => W.cell? ⟨rb, 1, none⟩ = some (.string T) ∧ W.cell? ⟨rb, 2, none⟩ = some (.int .i64 (a : Int)) ∧ W.cell? ⟨bx, 0, none⟩ = some (.int .i64 (A : Int)) ∧ W.cell? ⟨bx, 1, none⟩ = some (.slice o9 k2 c9) ∧ W.cell? ⟨bx, 2, none⟩ = some (.bool bd)) (((repeat (with_reducible (refine keep5 (by omega) ?_))); with_reducible (first | exact hS0 | exact hSa _ | exact hSb _ _ | exact s4 | exact s4a _ | exact s4b _ _))) (first
          | (refine step_call (by rfl) Tryz.func77 (by kernel_rfl) (by kernel_rfl) _ _ (by rfl) [.string T, .int .i64 (a : Int), .agg #[.int .i64 (A : Int), .slice o9 k2 c9, .bool bd]] (by rfl) _ (HTS.out W2.drew (Below.refl W2.heap.size W2).drew) ?_; intro v w4 hh; obtain ⟨o6, n6, c6, hv4, hM9, hb4⟩ := hh; subst hv4; have hb0 := (Below.refl W2.heap.size W2).drew; have hb04 : Below W2.heap.size W2 w4 := hb0.trans (hb4.mono hb0.size); have s4 := HKP.out _ hb04; have s4a := fun o => HKP.out _ (hb04.alloc hb04.size o); have s4b := fun o p => HKP.out _ ((hb04.alloc hb04.size o).alloc (Nat.le_trans hb04.size (by rw [World.size_alloc]; exact Nat.le_succ _)) p))
          | (refine step_call (by rfl) Tryz.func77 (by kernel_rfl) (by kernel_rfl) _ _ (by rfl) [.string T, .int .i64 (a : Int), .agg #[.int .i64 (A : Int), .slice o9 k2 c9, .bool bd]] (by rfl) _ (HTS.out (W2.alloc (.cells #[.int .i64 0, .int .i64 0, .int .i64 0, .bool false] 44)).drew ((Below.refl W2.heap.size W2).alloc (Nat.le_refl _) (.cells #[.int .i64 0, .int .i64 0, .int .i64 0, .bool false] 44)).drew) ?_; intro v w4 hh; obtain ⟨o6, n6, c6, hv4, hM9, hb4⟩ := hh; subst hv4; have hb0 := ((Below.refl W2.heap.size W2).alloc (Nat.le_refl _) (.cells #[.int .i64 0, .int .i64 0, .int .i64 0, .bool false] 44)).drew; have hb04 : Below W2.heap.size W2 w4 := hb0.trans (hb4.mono hb0.size); have s4 := HKP.out _ hb04; have s4a := fun o => HKP.out _ (hb04.alloc hb04.size o); have s4b := fun o p => HKP.out _ ((hb04.alloc hb04.size o).alloc (Nat.le_trans hb04.size (by rw [World.size_alloc]; exact Nat.le_succ _)) p); have hz4 : W2.heap.size + 1 ≤ w4.heap.size := (by have := hb4.size; have e : ((W2.alloc (.cells #[.int .i64 0, .int .i64 0, .int .i64 0, .bool false] 44)).drew).heap.size = W2.heap.size + 1 := World.size_alloc _ _; omega); have kt0 := ((Blk.new W2 #[.int .i64 0, .int .i64 0, .int .i64 0, .bool false] 44).drew).below hb4; have kt := kt0.alloc (.cells #[.int .i64 0, .slice none 0 0, .bool false] 50); have ktc0 := kt.cell 0; have ktc1 := kt.cell 1; have ktc2 := kt.cell 2; have ktc3 := kt.cell 3; have ktf0 := kt.frozen 0; have ktf1 := kt.frozen 1; have ktf2 := kt.frozen 2; have ktf3 := kt.frozen 3; have kx := Blk.new w4 #[.int .i64 0, .slice none 0 0, .bool false] 50; have kxc0 := kx.cell 0; have kxc1 := kx.cell 1; have kxc2 := kx.cell 2; have kxf0 := kx.frozen 0; have kxf1 := kx.frozen 1; have kxf2 := kx.frozen 2; have ky := ((((kx).other 0 (.int .i64 (tk : Int)) (b' := W2.heap.size) (by omega)).other 1 (.int .i64 (tf : Int)) (b' := W2.heap.size) (by omega)).other 2 (.int .i64 (te : Int)) (b' := W2.heap.size) (by omega)).other 3 (.bool top) (b' := W2.heap.size) (by omega); have kyc0 := ky.cell 0; have kyc1 := ky.cell 1; have kyc2 := ky.cell 2; have kyf0 := ky.frozen 0; have kyf1 := ky.frozen 1; have kyf2 := ky.frozen 2)
          | (refine step_call (by rfl) Tryz.func77 (by kernel_rfl) (by kernel_rfl) _ _ (by rfl) [.string T, .int .i64 (a : Int), .agg #[.int .i64 (A : Int), .slice o9 k2 c9, .bool bd]] (by rfl) _ (HTS.out (W2.alloc (.cells #[.int .i64 0, .slice none 0 0, .bool false] 50)).drew ((Below.refl W2.heap.size W2).alloc (Nat.le_refl _) (.cells #[.int .i64 0, .slice none 0 0, .bool false] 50)).drew) ?_; intro v w4 hh; obtain ⟨o6, n6, c6, hv4, hM9, hb4⟩ := hh; subst hv4; have hb0 := ((Below.refl W2.heap.size W2).alloc (Nat.le_refl _) (.cells #[.int .i64 0, .slice none 0 0, .bool false] 50)).drew; have hb04 : Below W2.heap.size W2 w4 := hb0.trans (hb4.mono hb0.size); have s4 := HKP.out _ hb04; have s4a := fun o => HKP.out _ (hb04.alloc hb04.size o); have s4b := fun o p => HKP.out _ ((hb04.alloc hb04.size o).alloc (Nat.le_trans hb04.size (by rw [World.size_alloc]; exact Nat.le_succ _)) p); have hz4 : W2.heap.size + 1 ≤ w4.heap.size := (by have := hb4.size; have e : ((W2.alloc (.cells #[.int .i64 0, .slice none 0 0, .bool false] 50)).drew).heap.size = W2.heap.size + 1 := World.size_alloc _ _; omega); have kx0 := ((Blk.new W2 #[.int .i64 0, .slice none 0 0, .bool false] 50).drew).below hb4; have kx := kx0.alloc (.cells #[.int .i64 (tk : Int), .int .i64 (tf : Int), .int .i64 (te : Int), .bool top] 44); have kxc0 := kx.cell 0; have kxc1 := kx.cell 1; have kxc2 := kx.cell 2; have kxf0 := kx.frozen 0; have kxf1 := kx.frozen 1; have kxf2 := kx.frozen 2)
          | (refine step_call (by rfl) Tryz.func77 (by kernel_rfl) (by kernel_rfl) _ _ (by rfl) [.string T, .int .i64 (a : Int), .agg #[.int .i64 (A : Int), .slice o9 k2 c9, .bool bd]] (by rfl) _ (HTS.out ((W2.alloc (.cells #[.int .i64 0, .int .i64 0, .int .i64 0, .bool false] 44)).alloc (.cells #[.int .i64 0, .slice none 0 0, .bool false] 50)).drew ((((Below.refl W2.heap.size W2).alloc (Nat.le_refl _) (.cells #[.int .i64 0, .int .i64 0, .int .i64 0, .bool false] 44)).alloc (by rw [World.size_alloc]; exact Nat.le_succ _) (.cells #[.int .i64 0, .slice none 0 0, .bool false] 50))).drew) ?_; intro v w4 hh; obtain ⟨o6, n6, c6, hv4, hM9, hb4⟩ := hh; subst hv4; have hb0 := ((((Below.refl W2.heap.size W2).alloc (Nat.le_refl _) (.cells #[.int .i64 0, .int .i64 0, .int .i64 0, .bool false] 44)).alloc (by rw [World.size_alloc]; exact Nat.le_succ _) (.cells #[.int .i64 0, .slice none 0 0, .bool false] 50))).drew; have hb04 : Below W2.heap.size W2 w4 := hb0.trans (hb4.mono hb0.size); have s4 := HKP.out _ hb04; have s4a := fun o => HKP.out _ (hb04.alloc hb04.size o); have s4b := fun o p => HKP.out _ ((hb04.alloc hb04.size o).alloc (Nat.le_trans hb04.size (by rw [World.size_alloc]; exact Nat.le_succ _)) p); have kt := ((((Blk.new W2 #[.int .i64 0, .int .i64 0, .int .i64 0, .bool false] 44).alloc (.cells #[.int .i64 0, .slice none 0 0, .bool false] 50)).drew)).below hb4; have ktc0 := kt.cell 0; have ktc1 := kt.cell 1; have ktc2 := kt.cell 2; have ktc3 := kt.cell 3; have ktf0 := kt.frozen 0; have ktf1 := kt.frozen 1; have ktf2 := kt.frozen 2; have ktf3 := kt.frozen 3; have kx := ((blk_a2 W2 (.cells #[.int .i64 0, .int .i64 0, .int .i64 0, .bool false] 44) #[.int .i64 0, .slice none 0 0, .bool false] 50).drew).below hb4; have kxc0 := kx.cell 0; have kxc1 := kx.cell 1; have kxc2 := kx.cell 2; have kxf0 := kx.frozen 0; have kxf1 := kx.frozen 1; have kxf2 := kx.frozen 2)
          | (refine step_call (by rfl) Tryz.func77 (by kernel_rfl) (by kernel_rfl) _ _ (by rfl) [.string T, .int .i64 (a : Int), .agg #[.int .i64 (A : Int), .slice o9 k2 c9, .bool bd]] (by rfl) _ (HTS.out ((W2.alloc (.cells #[.int .i64 0, .slice none 0 0, .bool false] 50)).alloc (.cells #[.int .i64 0, .int .i64 0, .int .i64 0, .bool false] 44)).drew ((((Below.refl W2.heap.size W2).alloc (Nat.le_refl _) (.cells #[.int .i64 0, .slice none 0 0, .bool false] 50)).alloc (by rw [World.size_alloc]; exact Nat.le_succ _) (.cells #[.int .i64 0, .int .i64 0, .int .i64 0, .bool false] 44))).drew) ?_; intro v w4 hh; obtain ⟨o6, n6, c6, hv4, hM9, hb4⟩ := hh; subst hv4; have hb0 := ((((Below.refl W2.heap.size W2).alloc (Nat.le_refl _) (.cells #[.int .i64 0, .slice none 0 0, .bool false] 50)).alloc (by rw [World.size_alloc]; exact Nat.le_succ _) (.cells #[.int .i64 0, .int .i64 0, .int .i64 0, .bool false] 44))).drew; have hb04 : Below W2.heap.size W2 w4 := hb0.trans (hb4.mono hb0.size); have s4 := HKP.out _ hb04; have s4a := fun o => HKP.out _ (hb04.alloc hb04.size o); have s4b := fun o p => HKP.out _ ((hb04.alloc hb04.size o).alloc (Nat.le_trans hb04.size (by rw [World.size_alloc]; exact Nat.le_succ _)) p); have kt := ((((Blk.new W2 #[.int .i64 0, .slice none 0 0, .bool false] 50).alloc (.cells #[.int .i64 0, .int .i64 0, .int .i64 0, .bool false] 44)).drew)).below hb4; have ktc0 := kt.cell 0; have ktc1 := kt.cell 1; have ktc2 := kt.cell 2; have ktf0 := kt.frozen 0; have ktf1 := kt.frozen 1; have ktf2 := kt.frozen 2; have kx := ((blk_a2 W2 (.cells #[.int .i64 0, .slice none 0 0, .bool false] 50) #[.int .i64 0, .int .i64 0, .int .i64 0, .bool false] 44).drew).below hb4; have kxc0 := kx.cell 0; have kxc1 := kx.cell 1; have kxc2 := kx.cell 2; have kxc3 := kx.cell 3; have kxf0 := kx.frozen 0; have kxf1 := kx.frozen 1; have kxf2 := kx.frozen 2; have kxf3 := kx.frozen 3))
        all_goals
          go_step
          go_step
          go_meet
          case rel =>
            have hs4 := hb04.size
            first
              | with_reducible exact stc_new hb04 hM9
              | with_reducible exact stc_wen hb04 hM9
              | with_reducible exact stc_seven (hb04.alloc hs4 _) (hM9.below ((Below.refl _ _).alloc (Nat.le_refl _) _)) kt kx (by omega) (Nat.le_refl _) hs4
              | with_reducible exact stc_three (hb04.alloc hs4 _) (hM9.below ((Below.refl _ _).alloc (Nat.le_refl _) _)) (Blk.new w4 _ _) kx (by omega) hs4 (Nat.le_refl _)
              | with_reducible exact stc_seven hb04 hM9 kt kx (by omega) (Nat.le_refl _) (Nat.le_succ _)
              | with_reducible exact stc_seven hb04 hM9 kx kt (by omega) (Nat.le_succ _) (Nat.le_refl _)
      case rest =>
        obtain ⟨bt, by', o6, n6, c6, rfl, rfl, kt, ky, hM6, hb3, hge1, hge2⟩ := hcut
        generalize wc = W3 at *
        have kr3 := HKR2.out.below hb3
        have kx3 := HKX2.out.below hb3
        have kz3 := HKZ2.out.below hb3
        have hrb3 : rb < W2.heap.size := hrb2
        have hnr1 : bt ≠ rb := by omega
        have hnr2 : by' ≠ rb := by omega
        have hnr3 : bx ≠ rb := by omega
        have hnr4 : w.heap.size ≠ rb := by omega
        have kr4 := kr3.set 2 (.int .i64 (te : Int))
        have kt4 := kt.other 2 (.int .i64 (te : Int)) (b' := rb) hnr1
        have ky4 := ky.other 2 (.int .i64 (te : Int)) (b' := rb) hnr2
        have kx4 := kx3.other 2 (.int .i64 (te : Int)) (b' := rb) hnr3
        have kz4 := kz3.other 2 (.int .i64 (te : Int)) (b' := rb) hnr4
        have hF4 : Frm (fun j => j = rb) W3 (W3.setCell ⟨rb, 2, none⟩ (.int .i64 (te : Int))) := Frm.setCell (p := fun j => j = rb) (Frm.refl _ W3) 2 (.inl rfl) _
        have t2 := kt.cell 2
        have x2 := kr3.cell 2
        have f2 := kr3.frozen 2
        have H4 := Lib.hid (And.intro kr4 (And.intro kt4 (And.intro ky4 (And.intro kx4 (And.intro kz4 (And.intro hF4 (And.intro hM6 (And.intro kr3 (And.intro hb3 kt)))))))))
        have hlr3 : rb < W3.heap.size := kr3.lt
        clear kr3 kx3 kz3 kr4 kt4 ky4 kx4 kz4 hF4 hM6 kt ky hb3 hS0 hSa hSb HKP
        go_upto_region 5 with fail
        obtain ⟨W4, hW4⟩ : ∃ Z, W3.setCell ⟨rb, 2, none⟩ (.int .i64 (te : Int)) = Z := ⟨_, rfl⟩
        rw [hW4] at H4 ⊢
        have HW4 := Lib.hid hW4
        clear hW4 t2 x2 f2
        go_cut [] from 41 to 52 (fun wx => Blk wx rb #[.pointer (some ⟨b, 0, none⟩), .string T, .int .i64 (te : Int), .int .i64 (Y.await : Int), .bool Y.body, .int .i64 (f : Int), .int .i64 (e : Int), .slice og ng cg, .int .i64 df] 97 ∧ Frm (fun j => j = rb) W4 wx)
        case first =>
          have y0 := H4.out.2.2.1.cell 0
          have y2 := H4.out.2.2.1.cell 2
          have x3 := H4.out.1.cell 3
          have x4 := H4.out.1.cell 4
          have f3 := H4.out.1.frozen 3
          have f4 := H4.out.1.frozen 4
          have x4' := (H4.out.1.set 3 (.int .i64 (Y.await : Int))).cell 4
          have f4' := (H4.out.1.set 3 (.int .i64 (Y.await : Int))).frozen 4
          have x3' := (H4.out.1.set 4 (.bool Y.body)).cell 3
          have f3' := (H4.out.1.set 4 (.bool Y.body)).frozen 3
          go_region
          all_goals
            go_wp2_with fail
            go_meet
            case rel =>
              first
                | exact ⟨((H4.out.1.set 3 (.int .i64 (Y.await : Int))).set 4 (.bool Y.body)).drew, (Frm.setCell (p := fun j => j = rb) (Frm.setCell (p := fun j => j = rb) (Frm.refl _ W4) 3 (.inl rfl) _) 4 (.inl rfl) _).drew⟩
                | exact ⟨((H4.out.1.set 4 (.bool Y.body)).set 3 (.int .i64 (Y.await : Int))).drew, (Frm.setCell (p := fun j => j = rb) (Frm.setCell (p := fun j => j = rb) (Frm.refl _ W4) 4 (.inl rfl) _) 3 (.inl rfl) _).drew⟩
        case rest =>
          obtain ⟨kr5, hF5⟩ := hcut
          generalize wc = W5 at *
          obtain ⟨kr4, kt4, ky4, kx4, kz4, hF4, hM6, kr3, hb3, kt3⟩ := H4.out
          have kt5 := kt4.frm hF5 hnr1
          have ky5 := ky4.frm hF5 hnr2
          have kx5 := kx4.frm hF5 hnr3
          have kz5 := kz4.frm hF5 hnr4
          have hM5 : LxR W5 (.slice o6 n6 c6) Y := hM6.keepC kr3 no_rd (hF4.trans hF5 (fun _ _ h => h))
          have hn6 := hM5.len
          obtain ⟨hXl, hk2, htw, hnx, hok', hnk', hL1, hL2, hk⟩ := HPL.out
          have hcnt := HPQ.out.2
          have ha1 : Y.await = (nxN T a X).await := by rw [← HY.out]; exact hnx.1
          have hb1 : Y.body = (nxN T a X).body := by rw [← HY.out]; exact hnx.2.1
          have hpo : popN T a (two X) = popN T a X := hnx.2.2.1
          have hpu : pushN T a (two X) = pushN T a X := hnx.2.2.2.1
          have hk2e : (two X).pend.length = k2 := by rw [hk2, hXl, HK2.out]
          have hpd : pushN T a X = 1 → ∃ d, (nxN T a X).pend = X.pend ++ [d] ∧ Y.pend = (two X).pend ++ [d] := fun h => by
            obtain ⟨d, h1, h2⟩ := hnx.2.2.2.2 h
            exact ⟨d, h1, by rw [← HY.out]; exact h2⟩
          have hFr5 : Frm (fun j => j = rb) w W5 := (((Frm.of_below (p := fun j => j = rb) HB2.out).trans (Frm.of_below (p := fun j => j = rb) hb3) (fun _ _ h => h)).trans hF4 (fun _ _ h => h)).trans hF5 (fun _ _ h => h)
          have hdw : ∀ g, (Value.slice og ng cg).ownBlock = some g → g < w.heap.size := fun g hg => by
            rcases HR.out.del with ⟨h1, _⟩ | ⟨g', off', c', h1, h2, _⟩
            · cases h1; cases hg
            · cases h1; cases hg; exact h2
          have hdr := HR.out.db
          have hsrc5 := HR.out.del.frm hFr5 (fun g hg e' => hdr g hg e')
          have how5 : cg = ng ∨ W5.ownsRow base 87 2 (.slice og ng cg) ng (cellsD F) := HR.out.ow.elim .inl (fun h => .inr (own_frm hFr5 h (fun g hg e' => hdr g hg e')))
          have hdz : ∀ g, (Value.slice og ng cg).ownBlock = some g → g ≠ rb ∧ g ≠ w.heap.size := fun g hg => ⟨hdr g hg, by have := hdw g hg; omega⟩
          have hln := HR.out.ln
          have hen : e = F.length := HR.out.en
          have hle : f ≤ e := HR.out.le
          have hcp := HR.out.cap
          have y1 := ky5.cell 1
          have x1 := kx5.cell 1
          rw [hk2e] at hcnt
          have HC := Lib.hid (And.intro hcnt (And.intro hln (And.intro hen (And.intro hle (And.intro hcp (And.intro hpo hpu))))))
          have HN6 := Lib.hid hn6
          by_cases hpush : pushN T a X = 1
          · obtain ⟨d, hd1, hd2⟩ := hpd hpush
            have hn7 : n6 = k2 + 1 := by omega
            have hlt : (k2 : Int) < (n6 : Int) := by omega
            have hst0 := stp_push (T := T) (a := a) (m := ⟨A, bd, f, e⟩) (F := F) hen hle (by rw [HX.out]; exact HBD.out) (by rw [HX.out]; exact hpush) (d := d) (by rw [HX.out]; exact hd1)
            rw [HX.out] at hst0
            obtain ⟨e1, he1⟩ : ∃ e1, e + 1 = e1 := ⟨_, rfl⟩
            have hst : Stp T (F ++ [d]) a ⟨A, bd, f, e⟩ ⟨(nxN T a X).await, (nxN T a X).body, f, e1⟩ := by rw [← he1]; exact hst0
            have hck : (cellsD (two X).pend).length = k2 * 2 := cellsD_len2 hk2e.symm
            have hcY : cellsD Y.pend = cellsD (two X).pend ++ [.string d.word, .bool d.tabs] := by rw [hd2, cellsD_append]; rfl
            obtain ⟨g6, off6, ho6, hg6, hd0, hd3⟩ : ∃ g6 off6, o6 = some ⟨g6, off6, none⟩ ∧ g6 < W5.heap.size ∧ W5.cell? ⟨g6, off6 + k2 * 2, none⟩ = some (.string d.word) ∧ W5.cell? ⟨g6, off6 + k2 * 2 + 1, none⟩ = some (.bool d.tabs) := by
              rcases hM5.src with ⟨h1, h2, h3⟩ | ⟨g, off, c', h1, h2, h3⟩
              · rw [hd2] at h2; rw [List.length_append] at h2; simp at h2
              · cases h1
                refine ⟨g, off, rfl, h2, ?_, ?_⟩
                · have := h3 (k2 * 2) (.string d.word) (by rw [hcY, List.getElem?_append_right (by omega), hck, Nat.sub_self]; rfl)
                  exact this
                · have := h3 (k2 * 2 + 1) (.bool d.tabs) (by rw [hcY, List.getElem?_append_right (by omega), hck, show k2 * 2 + 1 - k2 * 2 = 1 by omega]; rfl)
                  rw [← Nat.add_assoc] at this
                  exact this
            subst ho6
            have hrw5 : rb < W5.heap.size := kr5.lt
            have hwl5 : w.heap.size ≤ W5.heap.size := hFr5.size
            obtain ⟨i0, hi0, hz0', hs0, hb0⟩ := info_parts infoDl
            have hnews : ∀ X' : World, Blk X' W5.heap.size #[.string d.word, .bool d.tabs] 87 → ∀ j u, ([.string d.word, .bool d.tabs] : List Value)[j]? = some u → X'.cell? ((⟨W5.heap.size, 0, none⟩ : Addr).add j) = some u := fun X' hX' j u hj => by
              rw [Addr.add_lit, Nat.zero_add, hX'.cell j]
              simpa using hj
            have holds : ∀ X' : World, Below W5.heap.size W5 X' → ∀ b', og = some b' → ∀ j u, (cellsD F)[j]? = some u → X'.cell? (b'.add j) = some u := fun X' hX' b' hb' j u hj => by
              rcases hsrc5.below hX' with ⟨h1, _⟩ | ⟨g, off, c', h1, _, h3⟩
              · cases h1; cases hb'
              · cases h1
                cases hb'
                rw [Addr.add_lit]
                exact h3 j u hj
            have hnone : og = none → ng = 0 ∧ cg = 0 := fun h => by
              rcases hsrc5 with ⟨h1, _⟩ | ⟨g, off, c', h1, _⟩
              · injection h1 with _ h2 h3
                exact ⟨h2, h3⟩
              · injection h1 with h2
                rw [h] at h2
                cases h2
            have hlF : (cellsD F).length = ng * 2 := cellsD_len2 hln
            have p0' : (0 : Int) ≤ (k2 : Int) := by omega
            have x7 := kr5.cell 7
            have x7d := kr5.drew.cell 7
            have y1d := ky5.drew.cell 1
            have x1d := kx5.drew.cell 1
            have hd0d : W5.drew.cell? ⟨g6, off6 + k2 * 2, none⟩ = some (.string d.word) := hd0
            have hd3d : W5.drew.cell? ⟨g6, off6 + k2 * 2 + 1, none⟩ = some (.bool d.tabs) := hd3
            have HP := Lib.hid (And.intro hst (And.intro hen (And.intro hle (And.intro hln (And.intro he1 (And.intro hnews (And.intro holds (And.intro hnone (And.intro hlF (And.intro hdz (And.intro hdr hdw)))))))))))
            have HI0 := Lib.hid (And.intro hi0 (And.intro hz0' (And.intro hs0 hb0)))
            have HK5 := Lib.hid (And.intro kr5 (And.intro kt5 (And.intro kz5 hFr5)))
            have hng : ng ≤ 900 := by omega
            have he9 : e ≤ 900 := by omega
            have HE := Lib.hid (And.intro hn7 (And.intro hcnt (And.intro hck hcY)))
            clear hst0 hst he1 hck hcY hd1 hd2 hi0 hz0' hs0 hb0 hnews holds hnone hlF hpush hn7 hsrc5 hcnt hln hen hle hcp hpo hpu hnx hXl hk2 htw hok' hnk' hL1 hL2 hk hM5 hM6 hn6 hF4 hF5 hFr5 ky4 kx4 kz4 kt4 kt3 kr3 kr4 hb3 hpd hdw hdr hdz hk2e
            go_upto_region 7 with fail
            go_cut [] from 61 to 76 (fun wx => ∃ (og' : Option Addr) (c' : Nat), Blk wx rb (rdCells b T te ⟨Y.await, Y.body, f, e⟩ (.slice og' (ng + 1) c') df) 97 ∧ wx.ownsRow base 87 2 (.slice og' (ng + 1) c') (ng + 1) (cellsD F ++ [.string d.word, .bool d.tabs]) ∧ Frm (fun j => j = rb ∨ (base ≤ j ∧ (Value.slice og ng cg).ownBlock = some j)) W5 wx ∧ (∀ g, (Value.slice og' (ng + 1) c').ownBlock = some g → (Value.slice og ng cg).ownBlock = some g ∨ W5.heap.size ≤ g))
            case first =>
              rcases how5 with hfull | hown
              · have HFU := Lib.hid hfull
                clear hfull
                go_region_law (refine step_append_grows (by rfl) _ _ _ (by rfl) 87 i0 _ 2 24 Tryz.underlying48 HI0.out.1 HI0.out.2.1 HI0.out.2.2.1 HI0.out.2.2.2 rfl (by omega) og ng cg (cellsD F) (by rfl) HP.out.2.2.2.2.2.2.2.1 HP.out.2.2.2.2.2.2.2.2.1 (HP.out.2.2.2.2.2.2.1 _ (((Below.refl _ _).alloc (Nat.le_refl _) _).drew)) ⟨W5.heap.size, 0, none⟩ 1 1 [.string d.word, .bool d.tabs] (by rfl) (by rfl) (HP.out.2.2.2.2.2.1 _ ((Blk.new W5 _ _).drew)) (cellsD_one [d]) (by have := HFU.out; omega) (by unfold maxLen; omega) (by omega) ?_; intro v9 w9 hown9 hgr9; obtain ⟨oa9, c9', hv9⟩ := own_slice hown9; subst hv9; have kr9 := ((HK5.out.1.alloc (.cells #[.string d.word, .bool d.tabs] 87)).drew).grown hgr9 (fun e => by cases e); have u7 := kr9.cell 7; have f7 := kr9.frozen 7)
                all_goals
                  go_wp2_with fail
                  go_meet
                  case rel =>
                    have hF9 : Frm (fun j => j = rb ∨ (base ≤ j ∧ (Value.slice og ng cg).ownBlock = some j)) W5 w9 := (((Frm.refl _ W5).alloc _).drew).grown hgr9 (fun k hk => by cases hk)
                    have hFz : Frm (fun j => j = rb) w9 (w9.setCell ⟨rb, 7, none⟩ (.slice oa9 (ng + 1) c9')) := Frm.setCell (p := fun j => j = rb) (Frm.refl _ w9) 7 (.inl rfl) _
                    have hge9 := own_ge hown9
                    have hsz9 : (W5.alloc (.cells #[.string d.word, .bool d.tabs] 87)).drew.heap.size = W5.heap.size + 1 := World.size_alloc _ _
                    exact ⟨oa9, c9', kr9.set 7 _, own_frm hFz (own_lower hown9 (by rw [hsz9]; omega)) (fun g hg e' => by have h1 := hge9 g hg; rw [hsz9] at h1; have e'' : g = rb := e'; omega), hF9.setCell 7 (.inl (.inl rfl)) _, fun g hg => .inr (by have h1 := hge9 g hg; rw [hsz9] at h1; omega)⟩
              · have HOW := Lib.hid hown
                clear hown
                go_region_law (refine step_app_gen (by rfl) _ _ 48 87 2 24 _ (by rfl) Tryz.underlying48 infoDl rfl (by omega) (by omega) base (.slice og ng cg) ng (cellsD F) (by rfl) (own_drew (own_alloc HOW.out _)) _ 1 [.string d.word, .bool d.tabs] (by rfl) (src_d9 (x := d) ((Blk.new W5 _ _).drew)) rfl (cellsD_one [d]) (by omega) (by show base ≤ (W5.alloc _).heap.size; rw [World.size_alloc]; omega) (ng + 1) rfl ?_; intro oa9 c9' w9 hown9 hgr9 hg9; have kr9 := ((HK5.out.1.alloc (.cells #[.string d.word, .bool d.tabs] 87)).drew).grown hgr9 (fun e => HP.out.2.2.2.2.2.2.2.2.2.2.1 _ e.symm rfl); have u7 := kr9.cell 7; have f7 := kr9.frozen 7)
                all_goals
                  go_wp2_with fail
                  go_meet
                  case rel =>
                    have hge0 := own_ge HOW.out
                    have hF9 : Frm (fun j => j = rb ∨ (base ≤ j ∧ (Value.slice og ng cg).ownBlock = some j)) W5 w9 := (((Frm.refl _ W5).alloc _).drew).grown hgr9 (fun k hk => .inl (.inr ⟨hge0 k hk, hk⟩))
                    have hFz : Frm (fun j => j = rb) w9 (w9.setCell ⟨rb, 7, none⟩ (.slice oa9 (ng + 1) c9')) := Frm.setCell (p := fun j => j = rb) (Frm.refl _ w9) 7 (.inl rfl) _
                    have hge9 := own_ge hown9
                    exact ⟨oa9, c9', kr9.set 7 _, own_frm hFz hown9 (fun g hg e' => by have h1 := hge9 g hg; have e'' : g = rb := e'; omega), hF9.setCell 7 (.inl (.inl rfl)) _, fun g hg => by
                      rcases hg9 with q | q
                      · exact .inl (q.symm.trans hg)
                      · rw [q] at hg
                        have hsz9 : (W5.alloc (.cells #[.string d.word, .bool d.tabs] 87)).drew.heap.size = W5.heap.size + 1 := World.size_alloc _ _
                        injection hg with hg
                        exact .inr (by omega)⟩
            case rest =>
              obtain ⟨og', c', kr8, ho8, hF8, hg8⟩ := hcut
              generalize wc = W7 at *
              obtain ⟨hst, hen, hle, hln, he1, _, _, _, _, hdz0, hdr, hdw⟩ := HP.out
              obtain ⟨_, kt5', kz5', hFr5⟩ := HK5.out
              have hwl : w.heap.size < W5.heap.size := kz5'.lt
              have r1 : IntKind.i64.wrap ((e : Int) + 1) = (e1 : Int) := by rw [IntWalk.i64_in _ (by omega)]; omega
              have hFs : Frm (fun j => j = rb) W7 (W7.setCell ⟨rb, 6, none⟩ (.int .i64 (e1 : Int))) := Frm.setCell (p := fun j => j = rb) (Frm.refl _ W7) 6 (.inl rfl) _
              have hnt : ¬ (bt = rb ∨ (base ≤ bt ∧ (Value.slice og ng cg).ownBlock = some bt)) := fun h => h.elim hnr1 (fun hh => by have := hdw bt hh.2; omega)
              have hnz : ¬ (w.heap.size = rb ∨ (base ≤ w.heap.size ∧ (Value.slice og ng cg).ownBlock = some w.heap.size)) := fun h => h.elim hnr4 (fun hh => by have := hdw _ hh.2; omega)
              have kt6 := (kt5'.frm hF8 hnt).frm hFs hnr1
              have kz6 := (kz5'.frm hF8 hnz).frm hFs hnr4
              have kr6 : Blk (W7.setCell ⟨rb, 6, none⟩ (.int .i64 (e1 : Int))) rb (rdCells b T te ⟨Y.await, Y.body, f, e1⟩ (.slice og' (ng + 1) c') df) 97 := kr8.set 6 _
              have hge8 := own_ge ho8
              have ho6 := own_frm hFs ho8 (fun g hg e' => by have h1 := hge8 g hg; have e'' : g = rb := e'; omega)
              have hcd : cellsD (F ++ [d]) = cellsD F ++ [.string d.word, .bool d.tabs] := by rw [cellsD_append]; rfl
              rw [← hcd] at ho6
              have hF6 : Frm (fun j => j = rb ∨ (base ≤ j ∧ (Value.slice og ng cg).ownBlock = some j)) w (W7.setCell ⟨rb, 6, none⟩ (.int .i64 (e1 : Int))) := ((hFr5.mono (fun i _ h => .inl h)).trans hF8 (fun _ _ h => h)).trans hFs (fun _ _ h => .inl h)
              have hln' : ng + 1 = (F ++ [d]).length := by rw [List.length_append, ← hln]; rfl
              have hen' : e1 = (F ++ [d]).length := by rw [List.length_append, ← he1, hen]; rfl
              have hdz : ∀ g, (Value.slice og' (ng + 1) c').ownBlock = some g → g ≠ rb ∧ g ≠ w.heap.size := fun g hg => by
                have h1 := hge8 g hg
                refine ⟨by omega, ?_⟩
                rcases hg8 g hg with q | q
                · have := hdw g q; omega
                · omega
              have hown' : ∀ g, (Value.slice og' (ng + 1) c').ownBlock = some g → (Value.slice og ng cg).ownBlock = some g ∨ w.heap.size ≤ g := fun g hg => (hg8 g hg).imp id (fun h => by omega)
              have hfe1 : f ≤ e1 := by omega
              have htk : (F ++ [d]).take e = F := by rw [hen, List.take_append_of_le_length (Nat.le_refl _), List.take_length]
              have x6 : W7.cell? ⟨rb, 6, none⟩ = some (.int .i64 (e : Int)) := kr8.cell 6
              have f6 := kr8.frozen 6
              have HS := Lib.hid (And.intro hst (And.intro hfe1 (And.intro (Src.of_own ho6) (And.intro ho6 hdz))))
              have HHH := Lib.hid (And.intro hln' (And.intro hen' (And.intro hown' (And.intro htk (own_cap ho6)))))
              clear hst hen hle hln he1 hdz0 hdr hdw kt5' kz5' hFr5 hnt hnz hFs kr8 ho8 hF8 hg8 hge8 ho6 hcd hln' hen' hdz hown' htk kr5 kt5 ky5 kx5 kz5 hd0 hd3 hd0d hd3d x7 x7d y1d x1d y1 x1 hfe1
              have t0 := kt6.cell 0
              have t1 := kt6.cell 1
              have t2 := kt6.cell 2
              have t3 := kt6.cell 3
              have z0 := kz6.cell 0
              have z1 := kz6.cell 1
              have z2 := kz6.cell 2
              have z3 := kz6.cell 3
              have zf0 := kz6.frozen 0
              have zf1 := kz6.frozen 1
              have zf2 := kz6.frozen 2
              have zf3 := kz6.frozen 3
              have H6 := Lib.hid (And.intro kr6 (And.intro kz6 hF6))
              clear kt6 kr6 kz6 hF6
              go_wp2
              obtain ⟨kr6, kz6, hF6⟩ := H6.out
              obtain ⟨hst, hfe, hsrc6, how6, hdz⟩ := HS.out
              obtain ⟨hln, hen, hown', htk, hcp⟩ := HHH.out
              have kz7 := (((kz6.set 0 (.int .i64 (tk : Int))).set 1 (.int .i64 (tf : Int))).set 2 (.int .i64 (te : Int))).set 3 (.bool top)
              have v0 := kz7.cell 0
              have v1 := kz7.cell 1
              have v2 := kz7.cell 2
              have v3 := kz7.cell 3
              refine bodyPost_ret (v := .agg #[.int .i64 (tk : Int), .int .i64 (tf : Int), .int .i64 (te : Int), .bool top]) (by simp [results, Tryz.results68, go_sem, v0, v1, v2, v3]) rfl ?_
              rw [HT.out]
              rw [ha1, hb1] at kr6
              have hRd := rd_fin (zt := w.heap.size) kr6 hsrc6 hln hen hfe hcp (.inr how6) hdz hnr4.symm (.int .i64 (tk : Int)) (.int .i64 (tf : Int)) (.int .i64 (te : Int)) (.bool top)
              refine ⟨rfl, ⟨(nxN T a X).await, (nxN T a X).body, f, e1⟩, F ++ [d], og', ng + 1, c', hRd, hst, htk, rfl, rfl, ?_, hown'⟩
              exact Frm.setCell (Frm.setCell (Frm.setCell (Frm.setCell hF6 0 (.inr (Nat.le_refl _)) _) 1 (.inr (Nat.le_refl _)) _) 2 (.inr (Nat.le_refl _)) _) 3 (.inr (Nat.le_refl _)) _
          · have hnp : ¬ (k2 : Int) < (n6 : Int) := by omega
            by_cases hpop : popN T a X = 1
            · have hlt : (n6 : Int) < (k2 : Int) := by omega
              obtain ⟨hst, hfe⟩ := stp_pop (T := T) (a := a) (m := ⟨A, bd, f, e⟩) (F := F) hen hle (by rw [HX.out]; exact HBD.out) (by rw [HX.out]; exact hpop)
              rw [HX.out] at hst
              obtain ⟨f1, hf1⟩ : ∃ f1, f + 1 = f1 := ⟨_, rfl⟩
              replace hst : Stp T F a ⟨A, bd, f, e⟩ ⟨(nxN T a X).await, (nxN T a X).body, f1, e⟩ := by rw [← hf1]; exact hst
              replace hfe : f1 ≤ e := by rw [← hf1]; exact hfe
              have r1 : IntKind.i64.wrap ((f : Int) + 1) = (f1 : Int) := by rw [IntWalk.i64_in _ (by omega)]; omega
              have x5 := kr5.cell 5
              have f5 := kr5.frozen 5
              have kr6 : Blk (W5.setCell ⟨rb, 5, none⟩ (.int .i64 (f1 : Int))) rb (rdCells b T te ⟨Y.await, Y.body, f1, e⟩ (.slice og ng cg) df) 97 := kr5.set 5 _
              have hFs : Frm (fun j => j = rb) W5 (W5.setCell ⟨rb, 5, none⟩ (.int .i64 (f1 : Int))) := Frm.setCell (p := fun j => j = rb) (Frm.refl _ W5) 5 (.inl rfl) _
              have kt6 := kt5.frm hFs hnr1
              have kz6 := kz5.frm hFs hnr4
              have hF6 := hFr5.trans hFs (fun _ _ h => h)
              have hsrc6 := hsrc5.frm hFs (fun g hg e' => hdr g hg e')
              have how6 : cg = ng ∨ (W5.setCell ⟨rb, 5, none⟩ (.int .i64 (f1 : Int))).ownsRow base 87 2 (.slice og ng cg) ng (cellsD F) := how5.elim .inl (fun h => .inr (own_frm hFs h (fun g hg e' => hdr g hg e')))
              have HS := Lib.hid (And.intro hst (And.intro hfe (And.intro hsrc6 (And.intro how6 hdz))))
              have HHH := Lib.hid (And.intro hcnt (And.intro hln (And.intro hen (And.intro hle hcp))))
              clear hf1 hst hfe hsrc6 how6 hsrc5 how5 hcnt hln hen hle hcp hpush hpop hpo hpu hnx hXl hk2 htw hok' hnk' hL1 hL2 hk hM5 hM6 hn6 hFs hF4 hF5 hFr5 ky4 ky5 kx4 kx5 kz4 kz5 kt4 kt5 kt3 kr3 kr4 kr5 hb3 hpd hdw hdr hdz hk2e
              have t0 := kt6.cell 0
              have t1 := kt6.cell 1
              have t2 := kt6.cell 2
              have t3 := kt6.cell 3
              have z0 := kz6.cell 0
              have z1 := kz6.cell 1
              have z2 := kz6.cell 2
              have z3 := kz6.cell 3
              have zf0 := kz6.frozen 0
              have zf1 := kz6.frozen 1
              have zf2 := kz6.frozen 2
              have zf3 := kz6.frozen 3
              have H6 := Lib.hid (And.intro kr6 (And.intro kz6 hF6))
              clear kt6 kr6 kz6 hF6
              go_wp2
              obtain ⟨kr6, kz6, hF6⟩ := H6.out
              obtain ⟨hst, hfe, hsrc6, how6, hdz⟩ := HS.out
              obtain ⟨hcnt, hln, hen, hle, hcp⟩ := HHH.out
              have kz7 := (((kz6.set 0 (.int .i64 (tk : Int))).set 1 (.int .i64 (tf : Int))).set 2 (.int .i64 (te : Int))).set 3 (.bool top)
              have v0 := kz7.cell 0
              have v1 := kz7.cell 1
              have v2 := kz7.cell 2
              have v3 := kz7.cell 3
              refine bodyPost_ret (v := .agg #[.int .i64 (tk : Int), .int .i64 (tf : Int), .int .i64 (te : Int), .bool top]) (by simp [results, Tryz.results68, go_sem, v0, v1, v2, v3]) rfl ?_
              rw [HT.out]
              rw [ha1, hb1] at kr6
              have hRd := rd_fin (zt := w.heap.size) kr6 hsrc6 hln hen (by exact hfe) hcp how6 hdz hnr4.symm (.int .i64 (tk : Int)) (.int .i64 (tf : Int)) (.int .i64 (te : Int)) (.bool top)
              refine ⟨rfl, ⟨(nxN T a X).await, (nxN T a X).body, f1, e⟩, F, og, ng, cg, hRd, hst, by show F.take e = F; rw [hen, List.take_length], rfl, rfl, ?_, fun g hg => .inl hg⟩
              exact Frm.setCell (Frm.setCell (Frm.setCell (Frm.setCell (hF6.mono (fun i _ h => .inl h)) 0 (.inr (Nat.le_refl _)) _) 1 (.inr (Nat.le_refl _)) _) 2 (.inr (Nat.le_refl _)) _) 3 (.inr (Nat.le_refl _)) _
            · have hlt : ¬ (n6 : Int) < (k2 : Int) := by omega
              have hst := stp_none (T := T) (a := a) (m := ⟨A, bd, f, e⟩) (F := F) hen hle (by rw [HX.out]; exact HBD.out) (by rw [HX.out]; omega) (by rw [HX.out]; omega)
              rw [HX.out] at hst
              have kr6 : Blk W5 rb (rdCells b T te ⟨Y.await, Y.body, f, e⟩ (.slice og ng cg) df) 97 := kr5
              have kt6 := kt5
              have kz6 := kz5
              have hF6 := hFr5
              have HS := Lib.hid (And.intro hst (And.intro trivial (And.intro hsrc5 (And.intro how5 hdz))))
              have HHH := Lib.hid (And.intro hcnt (And.intro hln (And.intro hen (And.intro hle hcp))))
              clear hst hsrc5 how5 hcnt hln hen hle hcp hpush hpop hpo hpu hnx hXl hk2 htw hok' hnk' hL1 hL2 hk hM5 hM6 hn6 hF4 hF5 hFr5 ky4 ky5 kx4 kx5 kz4 kz5 kt4 kt5 kt3 kr3 kr4 kr5 hb3 hpd hdw hdr hdz hk2e
              have t0 := kt6.cell 0
              have t1 := kt6.cell 1
              have t2 := kt6.cell 2
              have t3 := kt6.cell 3
              have z0 := kz6.cell 0
              have z1 := kz6.cell 1
              have z2 := kz6.cell 2
              have z3 := kz6.cell 3
              have zf0 := kz6.frozen 0
              have zf1 := kz6.frozen 1
              have zf2 := kz6.frozen 2
              have zf3 := kz6.frozen 3
              have H6 := Lib.hid (And.intro kr6 (And.intro kz6 hF6))
              clear kt6 kr6 kz6 hF6
              go_wp2
              obtain ⟨kr6, kz6, hF6⟩ := H6.out
              obtain ⟨hst, hfe, hsrc6, how6, hdz⟩ := HS.out
              obtain ⟨hcnt, hln, hen, hle, hcp⟩ := HHH.out
              have kz7 := (((kz6.set 0 (.int .i64 (tk : Int))).set 1 (.int .i64 (tf : Int))).set 2 (.int .i64 (te : Int))).set 3 (.bool top)
              have v0 := kz7.cell 0
              have v1 := kz7.cell 1
              have v2 := kz7.cell 2
              have v3 := kz7.cell 3
              refine bodyPost_ret (v := .agg #[.int .i64 (tk : Int), .int .i64 (tf : Int), .int .i64 (te : Int), .bool top]) (by simp [results, Tryz.results68, go_sem, v0, v1, v2, v3]) rfl ?_
              rw [HT.out]
              rw [ha1, hb1] at kr6
              have hRd := rd_fin (zt := w.heap.size) kr6 hsrc6 hln hen (by exact hle) hcp how6 hdz hnr4.symm (.int .i64 (tk : Int)) (.int .i64 (tf : Int)) (.int .i64 (te : Int)) (.bool top)
              refine ⟨rfl, ⟨(nxN T a X).await, (nxN T a X).body, f, e⟩, F, og, ng, cg, hRd, hst, by show F.take e = F; rw [hen, List.take_length], rfl, rfl, ?_, fun g hg => .inl hg⟩
              exact Frm.setCell (Frm.setCell (Frm.setCell (Frm.setCell (hF6.mono (fun i _ h => .inl h)) 0 (.inr (Nat.le_refl _)) _) 1 (.inr (Nat.le_refl _)) _) 2 (.inr (Nat.le_refl _)) _) 3 (.inr (Nat.le_refl _)) _
end
end Go.Proofs.YtdjcidackkogjaaGreatDoor

/- What the iterator of a reader of layer 10 (relex) yields: the tokens from its place on, each with the mark ahead of it. Condition: texts of at most 900 bytes; the program's table of operators lies as start-up lays it.
How a reader of layer 10 (relex) seeks old tokens behind new ones, plainly: one comparison, those at one new token, those at all. No condition: nothing here speaks of the program. -/
import Derived.Test.YtdjcidackkogjaaGreatDoorRd
import Derived.Sort.BigQuietIn
import Derived.Test.YtdjcidackkogjaaGreatDoorRn
namespace Go.Proofs.YtdjcidackkogjaaGreatDoor
open Go.RowKit
set_option linter.unusedVariables false
set_option linter.unusedSectionVars false

def noP (Q : Exit → Act → World → Prop) : Exit → Act → World → Prop
  | .panic _, _, _ => False
  | ex, a, w => Q ex a w
theorem wpIn_noP {F : Fence} {m : Nat} {P : Program} {c : Code} {Q : Exit → Act → World → Prop} {a : Act} {w : World} (h : c.wpIn F m P (noP Q) a w) : c.wpIn F m P Q a w :=
  wpIn_mono h (fun ex _ _ hq => by cases ex <;> first | exact hq | exact hq.elim)
theorem yield_one {e : Ending} {K A B : Prop} (h : K ∧ ((e = .returned (.bool true) ∧ A) ∨ (e = .returned (.bool false) ∧ B))) : ∃ bb, e = .returned (.bool bb) ∧ Hid (K ∧ (bb = true → A) ∧ (bb = false → B)) := by
  rcases h with ⟨k, ⟨e1, h⟩ | ⟨e1, h⟩⟩
  · exact ⟨true, e1, Lib.hid ⟨k, fun _ => h, fun h => by cases h⟩⟩
  · exact ⟨false, e1, Lib.hid ⟨k, fun h => (by cases h), fun _ => h⟩⟩
theorem own_same {w w' : World} {base : Nat} {e : TypeId} {size n : Nat} {v : Value} {xs : List Value} (h : w.ownsRow base e size v n xs) (hk : ∀ k, v.ownBlock = some k → k < w.heap.size → w'.heap[k]? = w.heap[k]?) : w'.ownsRow base e size v n xs := by
  refine ⟨h.1, ?_⟩
  rcases h.2 with h0 | ⟨g, cap, cur, hv, hb, h3, h5⟩
  · exact .inl h0
  · exact .inr ⟨g, cap, cur, hv, hb, (hk g (by rw [hv]; rfl) (Array.getElem?_eq_some_iff.1 h3).1).trans h3, h5⟩
theorem cell_same {W W' : World} {b o : Nat} (h : W'.heap[b]? = W.heap[b]?) : W'.cell? ⟨b, o, none⟩ = W.cell? ⟨b, o, none⟩ := by simp [World.cell?, h]
theorem Src.same {w w' : World} {v : Value} {m : Nat} {xs : List Value} (h : Src w v m xs) (hs : w.heap.size ≤ w'.heap.size) (hk : ∀ k, v.ownBlock = some k → w'.heap[k]? = w.heap[k]?) : Src w' v m xs := by
  rcases h with h | ⟨b, off, c, h1, h2, h3⟩
  · exact .inl h
  · exact .inr ⟨b, off, c, h1, by omega, fun j u hj => (cell_same (hk b (by rw [h1]; rfl))).trans (h3 j u hj)⟩

theorem Rz.below {W W' : World} {base b rb : Nat} {T : ByteArray} {a0 : Nat} {m0 : Mk} {F0 : List Dl} {its : List (Tk × Mk)} {a : Nat} {m : Mk} {F : List Dl} {og : Option Addr} {ng cg : Nat} {df : Int} (h : Rz W base b rb T a0 m0 F0 its a m F og ng cg df) (hb : Below W.heap.size W W') : Rz W' base b rb T a0 m0 F0 its a m F og ng cg df :=
  ⟨⟨h.rd.blk.below hb, h.rd.del.below hb, h.rd.ln, h.rd.en, h.rd.le, h.rd.cap, h.rd.ow.elim .inl (fun k => .inr (own_below k hb)), h.rd.db⟩, h.pth, h.tk, h.le, h.en, h.aw, h.bd⟩
def aggI (q : Tk × Mk) : Value := .agg #[.int .i64 (q.1.kind : Int), .int .i64 (q.1.frm : Int), .int .i64 (q.1.en : Int), .bool q.1.op, .int .i64 (q.2.await : Int), .bool q.2.body, .int .i64 (q.2.frm : Int), .int .i64 (q.2.en : Int)]
def RzC (base rb Bs : Nat) (k : Nat) : Prop := k = Bs ∨ (k < base ∧ k ≠ rb)
def RzI (rb : Nat) (A B : World) : Prop := ∀ v, A.cell? ⟨rb, 8, none⟩ = some v → B.cell? ⟨rb, 8, none⟩ = some v
def RzK (rb : Nat) (A B : World) : Prop := ∀ b T a m pv df, Blk A rb (rdCells b T a m pv df) 97 → ∃ df', Blk B rb (rdCells b T a m pv df') 97
theorem Rz.kept {W W' : World} {base b rb : Nat} {T : ByteArray} {a0 : Nat} {m0 : Mk} {F0 : List Dl} {its : List (Tk × Mk)} {a : Nat} {m : Mk} {F : List Dl} {og : Option Addr} {ng cg : Nat} {df : Int} (h : Rz W base b rb T a0 m0 F0 its a m F og ng cg df) (hs : W.heap.size ≤ W'.heap.size) (hK : RzK rb W W') (ho : ∀ g, (Value.slice og ng cg).ownBlock = some g → W'.heap[g]? = W.heap[g]?) : ∃ df', Rz W' base b rb T a0 m0 F0 its a m F og ng cg df' := by
  obtain ⟨df', hb⟩ := hK _ _ _ _ _ _ h.rd.blk
  exact ⟨df', ⟨hb, h.rd.del.same hs ho, h.rd.ln, h.rd.en, h.rd.le, h.rd.cap, h.rd.ow.elim .inl (fun k => .inr (own_same k (fun g hg _ => ho g hg))), h.rd.db⟩, h.pth, h.tk, h.le, h.en, h.aw, h.bd⟩
def RzSt (base b rb : Nat) (T : ByteArray) (a0 : Nat) (m0 : Mk) (F0 : List Dl) (prs : List ((Tk × Lx) × Array Value)) (TT : Nat → Prop) (W : World) : Prop :=
  ∃ (its : List (Tk × Mk)) (a : Nat) (m : Mk) (F : List Dl) (og : Option Addr) (ng cg : Nat) (df : Int), Rz W base b rb T a0 m0 F0 its a m F og ng cg df ∧ prs.map Prod.snd = its.map (fun q => #[aggI q]) ∧
    (∀ g, (Value.slice og ng cg).ownBlock = some g → base ≤ g → TT g) ∧ tksF T (T.size - a0) a0 (mkL m0 F0) = prs.map Prod.fst ++ tksF T (T.size - a) a (mkL m F)
def RzL (base b rb Bs : Nat) (T : ByteArray) (a0 : Nat) (m0 : Mk) (F0 : List Dl) (ty : TypeId) (J : List ((Tk × Lx) × Array Value) → (Nat → Prop) → World → Prop) (wr : World) : Prop :=
  ∃ (prs : List ((Tk × Lx) × Array Value)) (TT : Nat → Prop), RzSt base b rb T a0 m0 F0 prs TT wr ∧ (∀ k, TT k → base ≤ k ∧ k ≠ Bs ∧ k < wr.heap.size) ∧ Blk wr Bs #[.pointer (some ⟨rb, 0, none⟩)] ty ∧ Tx wr ∧ J prs TT wr
def rzSz (s : ByteArray) : Option Value → Nat
  | some (.int _ i) => s.size - i.toNat
  | _ => 0
structure RzN (base b rb Bs : Nat) (T : ByteArray) (a0 : Nat) (m0 : Mk) (F0 : List Dl) (ty : TypeId) (J : List ((Tk × Lx) × Array Value) → (Nat → Prop) → World → Prop) (prs : List ((Tk × Lx) × Array Value)) (a : Nat) (m : Mk) (x : Tk × Lx) (T2 : Nat → Prop) (w2 : World) : Prop where
  st : RzSt base b rb T a0 m0 F0 (prs ++ [(x, #[aggI (x.1, m)])]) T2 w2
  ll : ∃ rest, tksF T (T.size - a0) a0 (mkL m0 F0) = prs.map Prod.fst ++ x :: rest
  tt : ∀ k, T2 k → base ≤ k ∧ k ≠ Bs ∧ k < w2.heap.size
  kb : Blk w2 Bs #[.pointer (some ⟨rb, 0, none⟩)] ty
  tx : Tx w2
  j : J prs T2 w2
theorem rz_step {base b rb Bs : Nat} {T : ByteArray} {a0 : Nat} {m0 : Mk} {F0 : List Dl} {ty : TypeId} {J : List ((Tk × Lx) × Array Value) → (Nat → Prop) → World → Prop} {prs : List ((Tk × Lx) × Array Value)} {TT : Nat → Prop} {its : List (Tk × Mk)} {a : Nat} {m : Mk} {F : List Dl} {og : Option Addr} {ng cg : Nat} {df : Int} {X w2 : World} {n2 : Mk} {F2 : List Dl} {og2 : Option Addr} {ng2 cg2 : Nat}
    (hJ : AbidS (fun k => k = rb) (RzI rb) J) (hz : Rz X base b rb T a0 m0 F0 its a m F og ng cg df) (hv : prs.map Prod.snd = its.map (fun q => #[aggI q])) (hTg : ∀ g, (Value.slice og ng cg).ownBlock = some g → base ≤ g → TT g) (hL : tksF T (T.size - a0) a0 (mkL m0 F0) = prs.map Prod.fst ++ tksF T (T.size - a) a (mkL m F))
    (hTT : ∀ k, TT k → base ≤ k ∧ k ≠ Bs ∧ k < X.heap.size) (kb : Blk X Bs #[.pointer (some ⟨rb, 0, none⟩)] ty) (hTX : Tx X) (hj : J prs TT X) (hb0 : 0 < rb) (hrb : rb < base) (hbs : base ≤ Bs) (hlt : a < T.size)
    (hR : RdS w2 base b rb T (tkN T a (mkL m F)).en n2 F2 og2 ng2 cg2 df) (hS : Stp T F2 a m n2) (hF : F2.take m.en = F) (hA : n2.await = (nxN T a (mkL m F)).await)
    (hFr : Frm (fun k => k = rb ∨ (base ≤ k ∧ (Value.slice og ng cg).ownBlock = some k)) X w2) (hg : ∀ g, (Value.slice og2 ng2 cg2).ownBlock = some g → (Value.slice og ng cg).ownBlock = some g ∨ X.heap.size ≤ g) :
    RzN base b rb Bs T a0 m0 F0 ty J prs a m (tkN T a (mkL m F), nxN T a (mkL m F)) (fun k => TT k ∨ ((Value.slice og2 ng2 cg2).ownBlock = some k ∧ base ≤ k)) w2 := by
  have hs2 := hFr.size
  have hz2 := hz.next hlt hR hS hF hA
  have hFF : mkL m F2 = mkL m F := mkL_take (by rw [hF, hz.rd.en, List.take_length])
  have hl2 : mkL n2 F2 = nxN T a (mkL m F) := by rw [hS.l, hFF]
  have hnx := tksF_next (mkL m F) hlt
  have hno : ¬ (Bs = rb ∨ (base ≤ Bs ∧ (Value.slice og ng cg).ownBlock = some Bs)) := by
    rintro (h | ⟨h1, h2⟩)
    · omega
    · exact (hTT Bs (hTg Bs h2 h1)).2.1 rfl
  have hown2 : ∀ g, (Value.slice og2 ng2 cg2).ownBlock = some g → g < w2.heap.size := fun g hg' => by
    rcases hR.del with ⟨h1, _⟩ | ⟨b', off, c, h1, h2, _⟩
    · rw [h1] at hg'; cases hg'
    · rw [h1] at hg'
      have e : b' = g := by simpa [Value.ownBlock] using hg'
      omega
  refine ⟨⟨_, _, _, _, _, _, _, _, hz2, ?_, fun g h1 h2 => .inr ⟨h1, h2⟩, ?_⟩, ⟨_, by rw [hL, hnx]⟩, ?_, kb.frm hFr hno, ?_, ?_⟩
  · rw [List.map_append, List.map_append, hv]
    rfl
  · rw [hL, hnx, List.map_append, List.append_assoc, hl2]
    rfl
  · rintro k (h | ⟨h1, h2⟩)
    · have := hTT k h
      exact ⟨this.1, this.2.1, by omega⟩
    · refine ⟨h2, ?_, hown2 k h1⟩
      rcases hg k h1 with e | e
      · exact (hTT k (hTg k e h2)).2.1
      · have := kb.lt; omega
  · exact ⟨by have := hTX.1; omega, fun i hi => (hFr.cell (a := ⟨0, i, none⟩) hTX.1 (fun e => by
      rcases e with e | ⟨e1, e2⟩
      · have e' : (0 : Nat) = rb := e; omega
      · have e' : base ≤ 0 := e1; omega)).trans (hTX.2 i hi)⟩
  · refine hJ prs TT X w2 _ hj (hFr.mono (fun k _ hk => ?_)) ?_ (fun k hk => ?_)
    · rcases hk with e | ⟨e1, e2⟩
      · exact .inr e
      · exact .inl (hTg k e2 e1)
    · intro v hv8
      have h8 := hz.rd.blk
      unfold rdCells at h8
      have e1 := h8.cell 8
      have h9 := hR.blk
      unfold rdCells at h9
      have e2 := h9.cell 8
      rw [e1] at hv8
      rw [e2]
      exact hv8
    · rcases hk with h | ⟨h1, h2⟩
      · exact .inl h
      · rcases hg k h1 with e | e
        · exact .inl (hTg k e h2)
        · exact .inr e
theorem rz_load {W W' : World} {T : ByteArray} {a0 : Nat} {m0 : Mk} {F0 : List Dl} {base b rb Bs : Nat} {ty : TypeId} {J : List ((Tk × Lx) × Array Value) → (Nat → Prop) → World → Prop} {prs : List ((Tk × Lx) × Array Value)} {TT : Nat → Prop} (h : RzSt base b rb T a0 m0 F0 prs TT W) (hTT : ∀ k, TT k → base ≤ k ∧ k ≠ Bs ∧ k < W.heap.size) (hb : Blk W Bs #[.pointer (some ⟨rb, 0, none⟩)] ty) (hX : Tx W) (h0 : 0 < rb) (hrb : rb < base) (hbs : base ≤ Bs)
    (hk : KpT (RzC base rb Bs) TT W W') (hK : RzK rb W W') (hj : J prs TT W') : RzL base b rb Bs T a0 m0 F0 ty J W' := by
  obtain ⟨its, a, m, F, og, ng, cg, df, hz, hv, hg, hL⟩ := h
  obtain ⟨df', hz'⟩ := hz.kept hk.size hK (fun g hg' => by
    rcases Nat.lt_or_ge g base with e | e
    · have hne := hz.rd.db g hg'
      have hl : g < W.heap.size := by have := hb.lt; omega
      exact hk.same g hl (.inr (.inr ⟨e, hne⟩))
    · have ht := hg g hg' e
      exact hk.same g (hTT g ht).2.2 (.inl ht))
  have hs := hk.size
  refine ⟨prs, TT, ⟨its, a, m, F, og, ng, cg, df', hz', hv, hg, hL⟩, fun k h => ?_, (hk.same Bs hb.lt (.inr (.inl rfl))).trans hb, ⟨by have := hX.1; omega, fun i hi => ?_⟩, hj⟩
  · have := hTT k h
    exact ⟨this.1, this.2.1, by omega⟩
  · exact (cell_same (hk.same 0 hX.1 (.inr (.inr ⟨by omega, by omega⟩)))).trans (hX.2 i hi)
theorem RzSt.below {W W' : World} {T : ByteArray} {a0 : Nat} {m0 : Mk} {F0 : List Dl} {base b rb : Nat} {prs : List ((Tk × Lx) × Array Value)} {TT : Nat → Prop} (h : RzSt base b rb T a0 m0 F0 prs TT W) (hb : Below W.heap.size W W') : RzSt base b rb T a0 m0 F0 prs TT W' := by
  obtain ⟨its, a, m, F, og, ng, cg, df, hz, hr⟩ := h
  exact ⟨its, a, m, F, og, ng, cg, df, hz.below hb, hr⟩
theorem rz_jb {W W' : World} {T : ByteArray} {a0 : Nat} {m0 : Mk} {F0 : List Dl} {base b rb : Nat} {prs : List ((Tk × Lx) × Array Value)} {TT : Nat → Prop} {J : List ((Tk × Lx) × Array Value) → (Nat → Prop) → World → Prop} (hJ : AbidS (fun k => k = rb) (RzI rb) J) (h : RzSt base b rb T a0 m0 F0 prs TT W) (hj : J prs TT W) (hb : Below W.heap.size W W') : J prs TT W' := by
  obtain ⟨its, a, m, F, og, ng, cg, df, hz, hr⟩ := h
  have kr := hz.rd.blk
  unfold rdCells at kr
  refine hJ prs TT W W' TT hj (Frm.of_below hb) (fun v hv => ?_) (fun k hk => .inl hk)
  have := kr.cell 8
  rw [this] at hv
  have h8 := (kr.below hb).cell 8
  rw [h8]; exact hv
theorem rz_at {W W' : World} {T : ByteArray} {a0 : Nat} {m0 : Mk} {F0 : List Dl} {base b rb : Nat} {prs : List ((Tk × Lx) × Array Value)} {TT : Nat → Prop} (h : RzSt base b rb T a0 m0 F0 prs TT W) (hK : RzK rb W W') {v : Value} (hv : W.cell? ⟨rb, 2, none⟩ = some v) : W'.cell? ⟨rb, 2, none⟩ = some v := by
  obtain ⟨its, a, m, F, og, ng, cg, df, hz, _⟩ := h
  obtain ⟨df', hb⟩ := hK _ _ _ _ _ _ hz.rd.blk
  have h1 := hz.rd.blk
  unfold rdCells at h1 hb
  have e1 := h1.cell 2
  rw [e1] at hv
  exact (hb.cell 2).trans hv
set_option maxRecDepth 100000 in
set_option maxHeartbeats 8000000 in
theorem items_seq (n : Nat) (hn : 1 ≤ n) (W : World) (base b rb Bs : Nat) (T : ByteArray) (a0 : Nat) (m0 : Mk) (F0 : List Dl) (og : Option Addr) (ng cg : Nat) (df : Int) (ty : TypeId) (hs : T.size ≤ 900)
    (hR : Rz W base b rb T a0 m0 F0 [] a0 m0 F0 og ng cg df) (hng : ∀ g, (Value.slice og ng cg).ownBlock = some g → g < base) (hrb : rb < base) (h0 : 0 < rb) (hbs : base ≤ Bs) (hb : Blk W Bs #[.pointer (some ⟨rb, 0, none⟩)] ty) (hT : Tx W) :
    SeqR n Tryz.prog 67 #[.pointer (some ⟨Bs, 0, none⟩)] (RzSt base b rb T a0 m0 F0) (RzC base rb Bs) (fun _ => False) (fun k => k = rb) (RzI rb) (RzK rb) (tksF T (T.size - a0) a0 (mkL m0 F0)) W := by
  intro l J Jx hJ hY hJ0
  have hst : RzL base b rb Bs T a0 m0 F0 ty J W := ⟨[], fun _ => False, ⟨[], a0, m0, F0, og, ng, cg, df, hR, rfl, fun g hg hh => by have := hng g hg; omega, rfl⟩, fun k h => h.elim, hb, hT, hJ0⟩
  have HY := Lib.hid hY
  have HJ := Lib.hid hJ
  have hro : Fence.wide.round = none := rfl
  have hfn : Fence.wide.fn 67 := trivial
  have hfx : Fence.wide.fn 68 := trivial
  have HST := Lib.hid hst
  clear hY hJ hJ0 hst hb hT hR hng
  generalize hL : tksF T (T.size - a0) a0 (mkL m0 F0) = L at *
  have HLL := Lib.hid hL
  clear hL
  refine callsIn_of_wp Tryz.func67 rfl hfn ?_ hro
  simp only [Tryz.ntmps67, List.size_toArray, List.length_cons, List.length_nil, Nat.reduceAdd, Nat.reduceSub, Array.replicate_succ, Array.replicate_zero, List.push_toArray, List.append_toArray, List.nil_append, List.cons_append]
  gi_wp2
  gi_loopw [] (fun wr => RzL base b rb Bs T a0 m0 F0 ty J wr) (fun wr => rzSz T (wr.cell? ⟨rb, 2, none⟩))
  case atStart => exact HST.out
  case round =>
    obtain ⟨prs, TT, ⟨its, a, m, F, og, ng, cg, df, hz, hv, hTg, hLL⟩, hTT, kb, hTX, hj⟩ := hrel
    have kr := hz.rd.blk
    unfold rdCells at kr
    have r1 : wr.cell? ⟨rb, 1, none⟩ = some (.string T) := kr.cell 1
    have r2 : wr.cell? ⟨rb, 2, none⟩ = some (.int .i64 (a : Int)) := kr.cell 2
    have r3 : wr.cell? ⟨rb, 3, none⟩ = some (.int .i64 (m.await : Int)) := kr.cell 3
    have r4 : wr.cell? ⟨rb, 4, none⟩ = some (.bool m.body) := kr.cell 4
    have r5 : wr.cell? ⟨rb, 5, none⟩ = some (.int .i64 (m.frm : Int)) := kr.cell 5
    have r6 : wr.cell? ⟨rb, 6, none⟩ = some (.int .i64 (m.en : Int)) := kr.cell 6
    have b0 : wr.cell? ⟨Bs, 0, none⟩ = some (.pointer (some ⟨rb, 0, none⟩)) := kb.cell 0
    have HR2 := Lib.hid r2
    by_cases hlt : a < T.size
    · have hi : (a : Int) < (T.size : Int) := by omega
      obtain ⟨x, hx⟩ : ∃ x : Tk × Lx, (tkN T a (mkL m F), nxN T a (mkL m F)) = x := ⟨_, rfl⟩
      -- the step, and what is to be yielded behind it
      have hrd : ∀ X, Below wr.heap.size wr X → CallsIn Fence.wide (n - 1) Tryz.prog 68 #[.pointer (some ⟨rb, 0, none⟩)] X fun e w2 => e = .returned (aggT x.1) ∧ ∃ T2, RzN base b rb Bs T a0 m0 F0 ty J prs a m x T2 w2 ∧ Frm (fun k => k = rb ∨ (base ≤ k ∧ TT k)) X w2 ∧ w2.cell? ⟨rb, 2, none⟩ = some (.int .i64 (x.1.en : Int)) := fun X hX =>
        ((callsIn_wide (n := n - 1)).2 (rdstep_any X base b rb T a m F og ng cg df (hz.below hX).rd hs hlt (hTX.b hX) (hz.len hs) hz.aw hz.bd ⟨hrb, by have := kb.lt; have := hX.size; omega⟩)).mono (by
          rintro e w2 ⟨rfl, n2, F2, og2, ng2, cg2, hR2, hS2, hF2, hA2, hBd2, hFr2, hg2⟩
          have hx1 : x.1 = tkN T a (mkL m F) := by rw [← hx]
          rw [hx1, ← hx]
          have h9 := hR2.blk
          unfold rdCells at h9
          exact ⟨rfl, _, rz_step HJ.out (hz.below hX) hv hTg hLL (fun k hk => by have h1 := hTT k hk; have h2 := hX.size; exact ⟨h1.1, h1.2.1, by omega⟩) (kb.below hX) (hTX.b hX) (HJ.out prs TT wr X TT hj (Frm.of_below hX) (fun v hv => by
            have := kr.cell 8
            rw [this] at hv
            have h8 := (kr.below hX).cell 8
            rw [h8]; exact hv) (fun k hk => .inl hk)) h0 hrb hbs hlt hR2 hS2 hF2 hA2 hFr2 hg2, hFr2.mono (fun k _ hk => hk.imp id (fun h => ⟨h.1, hTg k h.2 h.1⟩)), h9.cell 2⟩)
      have hyl : ∀ T2 w2, RzN base b rb Bs T a0 m0 F0 ty J prs a m x T2 w2 → YieldAt Fence.wide (n - 1) Tryz.prog l #[aggI (x.1, m)] w2 fun e W' => KpT (RzC base rb Bs) T2 w2 W' ∧ ((e = .returned (.bool true) ∧ (RzK rb w2 W' ∧ J (prs ++ [(x, #[aggI (x.1, m)])]) T2 W')) ∨ (e = .returned (.bool false) ∧ Jx (prs ++ [(x, #[aggI (x.1, m)])]) T2 W')) := fun T2 w2 h => by
        obtain ⟨rest, hr⟩ := h.ll
        exact HY.out prs x _ rest T2 w2 (by rw [← HLL.out]; exact hr) h.j (fun k hk => (h.tt k hk).2.2) h.st
      obtain ⟨⟨tk, tf, te, top⟩, nx⟩ := x
      obtain ⟨mA, mB, mf, me⟩ := m
      dsimp only [aggT, aggI] at hrd hyl r3 r4 r5 r6
      have HRD := Lib.hid hrd
      have HYL := Lib.hid hyl
      have hwb := kb.lt
      have hrl := kr.lt
      have HTT := Lib.hid hTT
      have hen : a < te := by
        have := (tkN_ok (mkL ⟨mA, mB, mf, me⟩ F) hlt).2.1
        have h1 := congrArg (fun q => q.1.en) hx
        simp only at h1
        omega
      clear hrd hyl hz hv hTg hLL hTT hTX hj kr hx
      gi_wp2_with fail
      gi_quiet (fail)
      have kx : Blk ((wr.drewN nq).alloc (.cells #[.int .i64 0, .bool false, .int .i64 0, .int .i64 0] 66)) wr.heap.size #[.int .i64 0, .bool false, .int .i64 0, .int .i64 0] 66 := Blk.new (wr.drewN nq) _ _
      have x0 := kx.cell 0
      have x1 := kx.cell 1
      have x2 := kx.cell 2
      have x3 := kx.cell 3
      have g0 := kx.frozen 0
      have g1 := kx.frozen 1
      have g2 := kx.frozen 2
      have g3 := kx.frozen 3
      gi_wp2_with fail
      obtain ⟨w1, hw1⟩ : ∃ Z, ((((((wr.drewN nq).alloc (.cells #[.int .i64 0, .bool false, .int .i64 0, .int .i64 0] 66)).setCell ⟨wr.heap.size, 0, none⟩ (.int .i64 (mA : Int))).setCell ⟨wr.heap.size, 1, none⟩ (.bool mB)).setCell ⟨wr.heap.size, 2, none⟩ (.int .i64 (mf : Int))).setCell ⟨wr.heap.size, 3, none⟩ (.int .i64 (me : Int))) = Z := ⟨_, rfl⟩
      have hB1 : Below wr.heap.size wr w1 := by rw [← hw1]; exact (((((below_drewN (Below.refl wr.heap.size wr) nq).alloc (Nat.le_refl wr.heap.size) _).setCell (p := ⟨wr.heap.size, 0, none⟩) (Nat.le_refl _) _).setCell (p := ⟨wr.heap.size, 1, none⟩) (Nat.le_refl _) _).setCell (p := ⟨wr.heap.size, 2, none⟩) (Nat.le_refl _) _).setCell (p := ⟨wr.heap.size, 3, none⟩) (Nat.le_refl _) _
      have kx1 : Blk w1 wr.heap.size #[.int .i64 (mA : Int), .bool mB, .int .i64 (mf : Int), .int .i64 (me : Int)] 66 := by
        rw [← hw1]
        exact (((kx.set 0 (.int .i64 (mA : Int))).set 1 (.bool mB)).set 2 (.int .i64 (mf : Int))).set 3 (.int .i64 (me : Int))
      rw [hw1]
      obtain ⟨zb, hzb⟩ : ∃ z, wr.heap.size = z := ⟨_, rfl⟩
      have HZB := Lib.hid hzb
      rw [hzb] at kx1 hwb hrl ⊢
      have HB1 := Lib.hid hB1
      have b1 : w1.cell? ⟨Bs, 0, none⟩ = some (.pointer (some ⟨rb, 0, none⟩)) := (kb.below hB1).cell 0
      have y0 : w1.cell? ⟨zb, 0, none⟩ = some (.int .i64 (mA : Int)) := kx1.cell 0
      have y1 : w1.cell? ⟨zb, 1, none⟩ = some (.bool mB) := kx1.cell 1
      have y2 : w1.cell? ⟨zb, 2, none⟩ = some (.int .i64 (mf : Int)) := kx1.cell 2
      have y3 : w1.cell? ⟨zb, 3, none⟩ = some (.int .i64 (me : Int)) := kx1.cell 3
      have KX1 := Lib.hid kx1
      clear x0 x1 x2 x3 g0 g1 g2 g3 kx hw1 hzb hB1 kx1 r1 r2 r3 r4 r5 r6 b0 kb
      have hmx : Tryz.prog.follows .mixedOrders = true := by kernel_rfl
      have hc4 : ∀ X w2, Below w1.heap.size w1 X → Frm (fun k => k = rb ∨ (base ≤ k ∧ TT k)) X w2 → w2.cell? ⟨zb, 0, none⟩ = some (.int .i64 (mA : Int)) ∧ w2.cell? ⟨zb, 1, none⟩ = some (.bool mB) ∧ w2.cell? ⟨zb, 2, none⟩ = some (.int .i64 (mf : Int)) ∧ w2.cell? ⟨zb, 3, none⟩ = some (.int .i64 (me : Int)) := fun X w2 hX hf => by
        have hk := (KX1.out.below hX).frm hf (fun hh => by
          rcases hh with e | ⟨_, e⟩
          · omega
          · have h1 := (HTT.out zb e).2.2
            have := HZB.out
            omega)
        exact ⟨hk.cell 0, hk.cell 1, hk.cell 2, hk.cell 3⟩
      have HC4 := Lib.hid hc4
      clear hc4
      refine wpIn_noP ?_
      gi_region_with_o (first
        | (refine (HRD.out _ (by first | exact HB1.out | exact HB1.out.drew | exact HB1.out.drew.drew)).mono ?_; rintro e2 w2 ⟨rfl, T2, hN2, hF2, ht2⟩; obtain ⟨z0, z1, z2, z3⟩ := HC4.out _ w2 (by first | exact Below.refl _ _ | exact (Below.refl _ _).drew | exact (Below.refl _ _).drew.drew) hF2; obtain ⟨fn9, tmps9, assign9, body9, hy9, hR9⟩ := HYL.out T2 w2 hN2; clear hF2)
        | (refine hR9.mono ?_; rintro e9 W9 hh; obtain ⟨bb, rfl, hq9⟩ := yield_one hh; clear hh))
      all_goals
        dsimp only [noP]
        obtain ⟨hk9, hjt, hjf⟩ := hq9.out
        have HN2 := Lib.hid hN2
        have HT2 := Lib.hid ht2
        have HK9 := Lib.hid (And.intro hk9 (And.intro hjt hjf))
        clear hk9 hjt hjf hq9 hN2 ht2 hy9 hR9 z0 z1 z2 z3 y0 y1 y2 y3 b1
        cases bb
        · gi_wp2_with fail
          refine bodyPost_ret (results_none rfl _ _ _) rfl ?_
          exact ⟨⟨_, rfl⟩, .inr ⟨_, _, HK9.out.2.2 (by first | rfl | trivial)⟩⟩
        · gi_wp2_with fail
          go_roundw
          case rel =>
            have h := HK9.out.2.1 (by first | rfl | trivial)
            exact rz_load HN2.out.st HN2.out.tt HN2.out.kb HN2.out.tx h0 hrb hbs HK9.out.1 h.1 h.2
          case measure =>
            have h := HK9.out.2.1 (by first | rfl | trivial)
            rw [rz_at HN2.out.st h.1 HT2.out, HR2.out]
            show T.size - te < T.size - a
            omega
    · have hi : ¬ (a : Int) < (T.size : Int) := by omega
      have hend := tksF_end (mkL m F) hlt
      have hLE : L = prs.map Prod.fst := by rw [← HLL.out, hLL, hend, List.append_nil]
      have HF := Lib.hid (And.intro hLE (And.intro hj (⟨its, a, m, F, og, ng, cg, df, hz, hv, hTg, hLL⟩ : RzSt base b rb T a0 m0 F0 prs TT wr)))
      have hwb := kb.lt
      clear hLE hend hLL hv hTg hTT hTX hj hz kr
      gi_wp2_with fail
      gi_quiet (fail)
      gi_wp2_with fail
      go_end0
      have hB : Below wr.heap.size wr (wr.drewN nq) := below_drewN (Below.refl _ _) _
      first | exact ⟨⟨_, rfl⟩, .inl ⟨prs, HF.out.1.symm, TT, rz_jb HJ.out HF.out.2.2 HF.out.2.1 hB, RzSt.below HF.out.2.2 hB⟩⟩ | exact ⟨⟨_, rfl⟩, .inl ⟨prs, TT, HF.out.1.symm, rz_jb HJ.out HF.out.2.2 HF.out.2.1 hB, RzSt.below HF.out.2.2 hB⟩⟩
end Go.Proofs.YtdjcidackkogjaaGreatDoor
namespace Go.Proofs.YtdjcidackkogjaaGreatDoor
open Go.RowKit
set_option linter.unusedVariables false

def SaX (o q : Mk) (D : List Dl) (X : Lx) (df : Int) (B : Bool) (df' : Int) : Prop :=
  ((¬ Fit o q ∨ (o.frm : Int) ≤ df) ∧ B = false ∧ df' = df) ∨
  (Fit o q ∧ df < (o.frm : Int) ∧ ∃ n : Nat, n ≤ o.en - o.frm ∧ df' = ((o.frm + n : Nat) : Int) ∧ B = decide (n = o.en - o.frm) ∧ (∀ i, i < n → D[o.frm + i]? = X.pend[i]?) ∧ (n < o.en - o.frm → D[o.frm + n]? ≠ X.pend[n]?))
theorem pend_at {q : Mk} {F : List Dl} {i : Nat} (h : i < q.en - q.frm) : (mkL q F).pend[i]? = F[q.frm + i]? := by
  unfold mkL
  simp only
  rw [List.getElem?_drop, List.getElem?_take, if_pos (by omega)]
theorem saX_of {o q : Mk} {D F : List Dl} {df df' : Int} {B : Bool} (h : SaR o q D F df B df') (ho : o.frm ≤ o.en) (hq : q.frm ≤ q.en) : SaX o q D (mkL q F) df B df' := by
  rcases h with h | ⟨h1, h2, n, h3, h4, h5, h6, h7⟩
  · exact .inl h
  · have hf := h1.2.2
    refine .inr ⟨h1, h2, n, h3, h4, h5, fun i hi => ?_, fun hn => ?_⟩
    · rw [pend_at (by omega)]; exact h6 i hi
    · rw [pend_at (by omega)]; exact h7 hn
inductive Sc (I : List (Tk × Mk)) (D : List Dl) (more : Int) (q : Tk × Mk) (X : Lx) : Nat → Int → Nat → Int → Bool → Prop
  | stop {n : Nat} {df : Int} : (∀ r, I[n]? = some r → (q.1.frm : Int) < (r.1.frm : Int) + more) → Sc I D more q X n df n df false
  | skip {n n' : Nat} {df df' : Int} {B : Bool} {r : Tk × Mk} : I[n]? = some r → (r.1.frm : Int) + more < (q.1.frm : Int) → Sc I D more q X (n + 1) df n' df' B → Sc I D more q X n df n' df' B
  | diff {n n' : Nat} {df df1 df' : Int} {B : Bool} {r : Tk × Mk} : I[n]? = some r → (r.1.frm : Int) + more = (q.1.frm : Int) → SaX r.2 q.2 D X df false df1 → Sc I D more q X (n + 1) df1 n' df' B → Sc I D more q X n df n' df' B
  | hit {n : Nat} {df df1 : Int} {r : Tk × Mk} : I[n]? = some r → (r.1.frm : Int) + more = (q.1.frm : Int) → SaX r.2 q.2 D X df true df1 → Sc I D more q X n df n df1 true
inductive Rr (I : List (Tk × Mk)) (D : List Dl) (more : Int) : List ((Tk × Mk) × Lx) → Nat → Int → Nat → Int → Prop
  | nil {n : Nat} {df : Int} : Rr I D more [] n df n df
  | snoc {l : List ((Tk × Mk) × Lx)} {q : Tk × Mk} {X : Lx} {n n1 n2 : Nat} {df df1 df2 : Int} : Rr I D more l n df n1 df1 → Sc I D more q X n1 df1 n2 df2 false → Rr I D more (l ++ [(q, X)]) n df n2 df2
theorem Sc.le {I : List (Tk × Mk)} {D : List Dl} {more : Int} {q : Tk × Mk} {X : Lx} {n n' : Nat} {df df' : Int} {B : Bool} (h : Sc I D more q X n df n' df' B) : n ≤ n' ∧ (n ≤ I.length → n' ≤ I.length) := by
  induction h with
  | stop _ => exact ⟨Nat.le_refl _, id⟩
  | skip h _ _ ih =>
    have := (List.getElem?_eq_some_iff.1 h).1
    exact ⟨by omega, fun _ => ih.2 (by omega)⟩
  | diff h _ _ _ ih =>
    have := (List.getElem?_eq_some_iff.1 h).1
    exact ⟨by omega, fun _ => ih.2 (by omega)⟩
  | hit _ _ _ => exact ⟨Nat.le_refl _, id⟩
theorem Rr.le {I : List (Tk × Mk)} {D : List Dl} {more : Int} {l : List ((Tk × Mk) × Lx)} {n n' : Nat} {df df' : Int} (h : Rr I D more l n df n' df') : n ≤ n' ∧ (n ≤ I.length → n' ≤ I.length) := by
  induction h with
  | nil => exact ⟨Nat.le_refl _, id⟩
  | snoc _ g ih => exact ⟨Nat.le_trans ih.1 g.le.1, fun h => g.le.2 (ih.2 h)⟩
theorem Sc.hits {I : List (Tk × Mk)} {D : List Dl} {more : Int} {q : Tk × Mk} {X : Lx} {n n' : Nat} {df df' : Int} (h : Sc I D more q X n df n' df' true) : ∃ r dfa, I[n']? = some r ∧ (r.1.frm : Int) + more = (q.1.frm : Int) ∧ SaX r.2 q.2 D X dfa true df' := by
  generalize hB : true = B at h
  induction h with
  | stop _ => cases hB
  | skip _ _ _ ih => exact ih hB
  | diff _ _ _ _ ih => exact ih hB
  | hit h1 h2 h3 => exact ⟨_, _, h1, h2, h3⟩
def aheads (X : Lx) (prs : List ((Tk × Lx) × Array Value)) : List Lx := X :: prs.map fun p => p.1.2
theorem aheads_last (X : Lx) (prs : List ((Tk × Lx) × Array Value)) (p : (Tk × Lx) × Array Value) : aheads X (prs ++ [p]) = aheads X prs ++ [p.1.2] := by simp [aheads]
def withX (X : Lx) (its : List (Tk × Mk)) (prs : List ((Tk × Lx) × Array Value)) : List ((Tk × Mk) × Lx) := its.zip (aheads X prs)
theorem withX_snoc {X : Lx} {its : List (Tk × Mk)} {prs : List ((Tk × Lx) × Array Value)} (h : its.length = prs.length) (q : Tk × Mk) (p : (Tk × Lx) × Array Value) (Y : Lx) (hY : (aheads X prs)[prs.length]? = some Y) : withX X (its ++ [q]) (prs ++ [p]) = withX X its prs ++ [(q, Y)] := by
  have hl : (aheads X prs).length = prs.length + 1 := by simp [aheads]
  have e : aheads X prs = (aheads X prs).take prs.length ++ [Y] := by
    apply List.ext_getElem?
    intro i
    rcases Nat.lt_trichotomy i prs.length with g | g | g
    · rw [List.getElem?_append_left (by rw [List.length_take]; omega), List.getElem?_take, if_pos g]
    · subst g
      rw [List.getElem?_append_right (by rw [List.length_take]; omega), List.length_take, hY]
      simp [hl]
    · rw [List.getElem?_eq_none (by omega), List.getElem?_eq_none (by rw [List.length_append, List.length_take]; simp; omega)]
  have hz : its.zip (aheads X prs) = its.zip ((aheads X prs).take prs.length) := by
    rw [e]
    have hl2 : ((aheads X prs).take prs.length).length = prs.length := by rw [List.length_take]; omega
    have h3 : ((aheads X prs).take prs.length ++ [Y]).take prs.length = (aheads X prs).take prs.length := by
      rw [List.take_append_of_le_length (by omega), List.take_take, Nat.min_self]
    rw [h3]
    have h4 : (its ++ []).zip ((aheads X prs).take prs.length ++ [Y]) = its.zip ((aheads X prs).take prs.length) ++ ([] : List (Tk × Mk)).zip [Y] := List.zip_append (by rw [hl2]; exact h)
    rw [List.append_nil] at h4
    simpa using h4
  unfold withX
  rw [aheads_last, hz]
  conv => lhs; rw [e]
  rw [List.append_assoc, List.zip_append (by rw [List.length_take]; omega)]
  rfl
end Go.Proofs.YtdjcidackkogjaaGreatDoor

/- What reread of a reader of layer 10 (relex) returns: the tokens that weren't there, and how many old ones stand behind them. Condition: texts of at most 900 bytes; the program's table of operators lies as start-up lays it. -/
import Derived.Test.YtdjcidackkogjaaGreatDoorRe
import Derived.Test.YtdjcidackkogjaaGreatDoorRb
namespace Go.Proofs.YtdjcidackkogjaaGreatDoor
open Go.RowKit
set_option linter.unusedVariables false
set_option linter.unusedSectionVars false
attribute [local go_sem] Oper.semAt_some

def RdR (w : World) (b rb : Nat) (T : ByteArray) (a0 : Nat) (m0 : Mk) (F0 : List Dl) (I : List (Tk × Mk)) (D : List Dl) (more : Int) (n0 : Nat) (e : Ending) (w' : World) : Prop :=
  ∃ (its : List (Tk × Mk)) (n1 : Nat) (df1 : Int) (a' : Nat) (m' : Mk) (F' : List Dl) (og' : Option Addr) (ng' cg' : Nat) (df' : Int) (fo : Option Addr) (fc tail : Nat),
    e = .returned (.tuple #[.slice fo its.length fc, .int .i64 (tail : Int)]) ∧ w'.ownsRow w.heap.size 82 8 (.slice fo its.length fc) its.length (cellsI its) ∧
    Blk w' rb (rdCells b T a' m' (.slice og' ng' cg') df') 97 ∧ Src w' (.slice og' ng' cg') ng' (cellsD F') ∧ ng' = F'.length ∧ m'.en = F'.length ∧ ng' ≤ cg' ∧ (∀ g, (Value.slice og' ng' cg').ownBlock = some g → g ≠ rb) ∧
    Pth T F' a0 m0 its a' m' ∧ F'.take m0.en = F0 ∧ Frm (fun k => k = rb) w w' ∧ Rr I D more (its.map fun q => (q, mkL q.2 F')) n0 (-1) n1 df1 ∧
    ((tail = 0 ∧ a' = T.size) ∨ (∃ q n2, q.2 = m' ∧ q.1.frm = a' ∧ Sc I D more q (mkL m' F') n1 df1 n2 df' true ∧ n2 < I.length ∧ tail = I.length - n2))
theorem aggI_inj {p q : Tk × Mk} (h : aggI p = aggI q) : p = q := by
  obtain ⟨⟨a1, a2, a3, a4⟩, ⟨b1, b2, b3, b4⟩⟩ := p
  obtain ⟨⟨c1, c2, c3, c4⟩, ⟨d1, d2, d3, d4⟩⟩ := q
  unfold aggI at h
  simp only [Value.agg.injEq, Array.mk.injEq, List.cons.injEq, Value.int.injEq, Value.bool.injEq, true_and, and_true] at h
  obtain ⟨h1, h2, h3, h4, h5, h6, h7, h8⟩ := h
  have e1 : a1 = c1 := by omega
  have e2 : a2 = c2 := by omega
  have e3 : a3 = c3 := by omega
  have e5 : b1 = d1 := by omega
  have e7 : b3 = d3 := by omega
  have e8 : b4 = d4 := by omega
  subst e1 e2 e3 e5 e7 e8 h4 h6
  rfl
theorem its_inj : ∀ (l k : List (Tk × Mk)), l.map (fun q => #[aggI q]) = k.map (fun q => #[aggI q]) → l = k
  | [], [], _ => rfl
  | [], _ :: _, h => by simp at h
  | _ :: _, [], h => by simp at h
  | p :: l, q :: k, h => by
    simp only [List.map_cons, List.cons.injEq, Array.mk.injEq, and_true] at h
    rw [aggI_inj h.1, its_inj l k h.2]
theorem its_snoc {its its1 : List (Tk × Mk)} {pre : List ((Tk × Lx) × Array Value)} {p : (Tk × Lx) × Array Value} (h : pre.map Prod.snd = its.map (fun q => #[aggI q])) (h1 : (pre ++ [p]).map Prod.snd = its1.map (fun q => #[aggI q])) : ∃ q, its1 = its ++ [q] ∧ p.2 = #[aggI q] := by
  have hl := congrArg List.length h1
  simp only [List.length_map, List.length_append, List.length_singleton] at hl
  rcases List.eq_nil_or_concat its1 with rfl | ⟨l, q, rfl⟩
  · simp at hl
  · rw [List.concat_eq_append] at h1 ⊢
    rw [List.map_append, h] at h1
    simp only [List.map_append, List.map_cons, List.map_nil] at h1
    have h2 := List.append_inj' h1 rfl
    refine ⟨q, by rw [its_inj _ _ h2.1], ?_⟩
    simpa using h2.2
theorem rz_aheads {T : ByteArray} {a0 : Nat} {m0 : Mk} {F0 : List Dl} {its : List (Tk × Mk)} {a : Nat} {m : Mk} {F : List Dl} {prs : List ((Tk × Lx) × Array Value)} (hp : Pth T F a0 m0 its a m) (htk : F.take m0.en = F0) (hF0 : F0.take m0.en = F0)
    (hv : prs.map Prod.snd = its.map (fun q => #[aggI q])) (hL : tksF T (T.size - a0) a0 (mkL m0 F0) = prs.map Prod.fst ++ tksF T (T.size - a) a (mkL m F)) : ∀ (j : Nat) (q : Tk × Mk), its[j]? = some q → (aheads (mkL m0 F0) prs)[j]? = some (mkL q.2 F) := by
  have hX : mkL m0 F = mkL m0 F0 := mkL_take (by rw [hF0]; exact htk.symm) |>.symm
  obtain ⟨L, h1, h2, _, h4⟩ := Pth.tks hp
  rw [hX, hL] at h1
  have hlen : (prs.map Prod.fst).length = L.length := by
    have e1 := congrArg List.length h2
    have e2 := congrArg List.length hv
    simp only [List.length_map] at e1 e2 ⊢
    omega
  have hLL := (List.append_inj h1 hlen).1
  intro j q hj
  cases j with
  | zero =>
    cases its with
    | nil => simp at hj
    | cons p its =>
      simp at hj
      subst hj
      have := hp.2.1
      show some (mkL m0 F0) = some (mkL p.2 F)
      rw [this, hX]
  | succ j =>
    obtain ⟨r, hr1, hr2⟩ := h4 j q hj
    rw [← hLL] at hr1
    show (prs.map fun p => p.1.2)[j]? = some (mkL q.2 F)
    rw [List.getElem?_map] at hr1 ⊢
    cases hp9 : prs[j]? with
    | none => rw [hp9] at hr1; cases hr1
    | some p9 =>
      rw [hp9] at hr1
      simp only [Option.map_some, Option.some.injEq] at hr1 ⊢
      rw [hr1, hr2]
def RkI (w : World) (z y rb : Nat) (I : List (Tk × Mk)) (D : List Dl) (M : Int) (X0 : Lx) (oi : Option Addr) (ni ci n0 : Nat) (pre : List ((Tk × Lx) × Array Value)) (TT : Nat → Prop) (W : World) : Prop :=
  ∃ (its : List (Tk × Mk)) (nn : Nat) (df : Int) (v : Value), Blk W z #[.pointer (some ⟨rb, 0, none⟩)] 75 ∧ Blk W (z + 1 + 1) #[v] 64 ∧ W.ownsRow z 82 8 v its.length (cellsI its) ∧ (∀ g, v.ownBlock = some g → ¬ TT g ∧ y + 5 ≤ g) ∧
    Blk W (z + 1 + 1 + 1) #[.int .i64 0] 3 ∧ Blk W (z + 4) #[.slice oi ni ci] 64 ∧ Blk W y #[.int .i64 (nn : Int)] 3 ∧ Blk W (y + 1) #[.int .i64 M] 3 ∧
    W.cell? ⟨rb, 8, none⟩ = some (.int .i64 df) ∧ pre.map Prod.snd = its.map (fun q => #[aggI q]) ∧ Rr I D M (withX X0 its pre) n0 (-1) nn df ∧ (∀ k, TT k → y + 5 ≤ k) ∧ y + 5 ≤ W.heap.size ∧ Frm (fun k => k = rb) w W ∧ nn ≤ ni
theorem RkI.abid {w : World} {z y rb : Nat} {I : List (Tk × Mk)} {D : List Dl} {M : Int} {X0 : Lx} {oi : Option Addr} {ni ci n0 : Nat} (h1 : rb < z) (h2 : z + 4 < y) (h3 : w.heap.size = z) : AbidLS (fun k => k = rb) (RzI rb) (y + 4) (RkI w z y rb I D M X0 oi ni ci n0) := by
  rintro pre TT W W' T' ⟨its, nn, df, v, b2, b4, ho, hv, b5, b6, b7, b8, hc, hi, hr, hT, hW, hF, hn⟩ hf hk hT'
  have no : ∀ k, k < y + 4 → k ≠ rb → ¬ ((TT k ∨ k = rb) ∨ k = y + 4) := fun k a1 a2 hh => by
    rcases hh with (e | e) | e
    · have := hT k e; omega
    · exact a2 e
    · omega
  have hs := hf.size
  refine ⟨its, nn, df, v, b2.frm hf (no _ (by omega) (by omega)), b4.frm hf (no _ (by omega) (by omega)), own_frm hf ho (fun g hg hh => ?_), fun g hg => ⟨fun hh => ?_, (hv g hg).2⟩, b5.frm hf (no _ (by omega) (by omega)), b6.frm hf (no _ (by omega) (by omega)), b7.frm hf (no _ (by omega) (by omega)), b8.frm hf (no _ (by omega) (by omega)), hk _ hc, hi, hr, fun k hh => ?_, by omega, ?_, hn⟩
  · have h9 := hv g hg
    rcases hh with (e | e) | e
    · exact h9.1 e
    · omega
    · omega
  · rcases hT' g hh with e | e
    · exact (hv g hg).1 e
    · have := own_lt ho g hg; omega
  · rcases hT' k hh with e | e
    · exact hT k e
    · omega
  · refine hF.trans hf (fun k hk2 hh => ?_)
    rcases hh with (e | e) | e
    · have := hT k e; omega
    · exact e
    · omega
def RkX (w : World) (z y rb b : Nat) (T : ByteArray) (a0 : Nat) (m0 : Mk) (F0 : List Dl) (I : List (Tk × Mk)) (D : List Dl) (M : Int) (n0 : Nat) (C0 : Code) (c : Code) (pre : List ((Tk × Lx) × Array Value)) (TT : Nat → Prop) (W : World) : Prop :=
  c = C0 ∧ ∃ (its : List (Tk × Mk)) (nn n2 : Nat) (df df2 : Int) (v : Value) (q : Tk × Mk) (F : List Dl) (og : Option Addr) (ng cg : Nat), Blk W z #[.pointer (some ⟨rb, 0, none⟩)] 75 ∧ Blk W (z + 1 + 1) #[v] 64 ∧ W.ownsRow z 82 8 v its.length (cellsI its) ∧ (∀ g, v.ownBlock = some g → y + 5 ≤ g) ∧
    Blk W (z + 1 + 1 + 1) #[.int .i64 ((I.length : Int) - (n2 : Int))] 3 ∧ Blk W rb (rdCells b T q.1.frm q.2 (.slice og ng cg) df2) 97 ∧ Src W (.slice og ng cg) ng (cellsD F) ∧ ng = F.length ∧ ng ≤ cg ∧ (∀ g, (Value.slice og ng cg).ownBlock = some g → g ≠ rb ∧ (z ≤ g → y + 5 ≤ g)) ∧
    q.2.en ≤ F.length ∧ Pth T F a0 m0 its q.1.frm q.2 ∧ F.take m0.en = F0 ∧ Rr I D M (its.map fun r => (r, mkL r.2 F)) n0 (-1) nn df ∧ Sc I D M q (mkL q.2 F) nn df n2 df2 true ∧ n2 < I.length ∧ y + 5 ≤ W.heap.size ∧ Frm (fun k => k = rb) w W
theorem RkX.abid {w : World} {z y rb b : Nat} {T : ByteArray} {a0 : Nat} {m0 : Mk} {F0 : List Dl} {I : List (Tk × Mk)} {D : List Dl} {M : Int} {n0 : Nat} {C0 : Code} (h1 : rb < z) (h2 : z + 4 < y) (h3 : w.heap.size = z) (c : Code) : AbidX (y + 4) (RkX w z y rb b T a0 m0 F0 I D M n0 C0 c) := by
  rintro pre TT W W' ⟨hc, its, nn, n2, df, df2, v, q, F, og, ng, cg, b2, b4, ho, hv, b5, kr, hs, hl, hcap, hg, hq, hp, hF, hr, hsc, hn, hy, hw⟩ hf
  have hs' := hf.size
  refine ⟨hc, its, nn, n2, df, df2, v, q, F, og, ng, cg, b2.frm hf (by omega), b4.frm hf (by omega), own_frm hf ho (fun g hg e => by have := hv g hg; omega), hv, b5.frm hf (by omega), kr.frm hf (by omega), hs.frm hf (fun g hg' e => ?_), hl, hcap, hg, hq, hp, hF, hr, hsc, hn, by omega, hw.trans hf (fun k hk e => by omega)⟩
  have := hg g hg'
  omega
theorem rz_end {T : ByteArray} {a : Nat} {X : Lx} (h : tksF T (T.size - a) a X = []) (hle : a ≤ T.size) : a = T.size := by
  rcases Nat.lt_or_ge a T.size with g | g
  · rw [tksF_next X g] at h; cases h
  · omega
def RkE (w : World) (z y rb b : Nat) (T : ByteArray) (a0 : Nat) (m0 : Mk) (F0 : List Dl) (I : List (Tk × Mk)) (D : List Dl) (M : Int) (n0 : Nat) (v : Value) (its : List (Tk × Mk)) (tail : Nat) (a' : Nat) (m' : Mk) (F : List Dl) (og : Option Addr) (ng cg : Nat) (df2 : Int) (W : World) : Prop :=
  ∃ (nn : Nat) (df : Int), W.ownsRow z 82 8 v its.length (cellsI its) ∧ (∀ g, v.ownBlock = some g → y + 5 ≤ g) ∧ Src W (.slice og ng cg) ng (cellsD F) ∧ ng = F.length ∧ ng ≤ cg ∧ (∀ g, (Value.slice og ng cg).ownBlock = some g → g ≠ rb ∧ (z ≤ g → y + 5 ≤ g)) ∧
    m'.en ≤ F.length ∧ Pth T F a0 m0 its a' m' ∧ F.take m0.en = F0 ∧ Rr I D M (its.map fun r => (r, mkL r.2 F)) n0 (-1) nn df ∧ ((tail = 0 ∧ a' = T.size ∧ m'.en = F.length) ∨ (∃ q n2, q.2 = m' ∧ q.1.frm = a' ∧ Sc I D M q (mkL m' F) nn df n2 df2 true ∧ n2 < I.length ∧ tail = I.length - n2)) ∧ y + 5 ≤ W.heap.size ∧ Frm (fun k => k = rb) w W
theorem zip_map {α β : Type} (f : α → β) : ∀ (l : List α) (k : List β), (∀ (j : Nat) (q : α), l[j]? = some q → k[j]? = some (f q)) → l.zip k = l.map (fun r => (r, f r)) := by
  intro l
  induction l with
  | nil => intro k _; rfl
  | cons a l ih =>
    intro k h
    cases k with
    | nil => have := h 0 a rfl; simp at this
    | cons b k =>
      have h0 := h 0 a rfl
      simp at h0
      rw [List.zip_cons_cons, List.map_cons, h0, ih k (fun j q hj => by have := h (j + 1) q (by simpa using hj); simpa using this)]
theorem withX_map {X0 : Lx} {its : List (Tk × Mk)} {prs : List ((Tk × Lx) × Array Value)} {F : List Dl} (h : ∀ (j : Nat) (q : Tk × Mk), its[j]? = some q → (aheads X0 prs)[j]? = some (mkL q.2 F)) : withX X0 its prs = its.map fun r => (r, mkL r.2 F) :=
  zip_map (fun r : Tk × Mk => mkL r.2 F) its _ h
theorem RkE.done {w : World} {z y rb b : Nat} {T : ByteArray} {a0 : Nat} {m0 : Mk} {F0 : List Dl} {I : List (Tk × Mk)} {D : List Dl} {M : Int} {n0 : Nat} {its : List (Tk × Mk)} {tail a' : Nat} {m' : Mk} {F : List Dl} {og : Option Addr} {ng cg : Nat} {df2 : Int} {W Wg : World} {fo : Option Addr} {fc : Nat}
    (h : RkE w z y rb b T a0 m0 F0 I D M n0 (.slice fo its.length fc) its tail a' m' F og ng cg df2 W) (hf : Frm (fun k => k = rb ∨ k = z + 1 + 1 ∨ k = z + 1 + 1 + 1 ∨ k = y + 3) W Wg) (hzz : w.heap.size = z) (hzy : z + 4 < y) (hrz : rb < z) (hF0 : F0.take m0.en = F0) (hm0 : m0.frm ≤ m0.en) (hm1 : m0.en = F0.length)
    (kr : Blk Wg rb (rdCells b T a' m' (.slice og m'.en cg) df2) 97) : RdR w b rb T a0 m0 F0 I D M n0 (.returned (.tuple #[.slice fo its.length fc, .int .i64 (tail : Int)])) Wg := by
  obtain ⟨nn, df, ho, hv, hs, hl, hc, hg, hen, hp, htk, hr, hend, hy, hw⟩ := h
  have hle := Pth.le hp
  have hm0F : m0.en ≤ F.length := by
    have := congrArg List.length htk
    rw [List.length_take] at this
    omega
  have hno : ∀ g, z ≤ g → y + 5 ≤ g → ¬ (g = rb ∨ g = z + 1 + 1 ∨ g = z + 1 + 1 + 1 ∨ g = y + 3) := fun g h1 h2 hh => by omega
  have hFl : (F.take m'.en).length = m'.en := by rw [List.length_take]; omega
  have hmk : ∀ r : Mk, r.en ≤ m'.en → mkL r (F.take m'.en) = mkL r F := fun r hr => mkL_take (by rw [List.take_take, Nat.min_eq_left hr])
  refine ⟨its, nn, df, a', m', F.take m'.en, og, m'.en, cg, df2, fo, fc, tail, rfl, ?_, kr, ?_, hFl.symm, hFl.symm, by omega, fun g hg' => ?_, ?_, ?_, ?_, ?_, ?_⟩
  · rw [hzz]
    exact own_frm hf ho (fun g hg' => hno g (own_ge ho g hg') (hv g hg'))
  · have hs2 : Src Wg (.slice og ng cg) ng (cellsD F) := hs.frm hf (fun g hg' hh => by
      have h1 := hg g (by have h9 := hg'; cases og <;> exact h9)
      rcases Nat.lt_or_ge g z with h2 | h2
      · omega
      · exact hno g h2 (h1.2 h2) hh)
    have e9 : cellsD (F.take m'.en) = (cellsD F).take (m'.en * 2) := by
      have := cellsD_seg (D := F) (a := 0) (b := m'.en) hen
      simpa using this
    rw [e9]
    rcases Nat.eq_zero_or_pos ng with h0 | h0
    · have hz0 : m'.en = 0 := by omega
      rw [hz0]
      rcases hs2 with ⟨e1, _, _⟩ | ⟨g, off, c, e1, e2, _⟩
      · injection e1 with e3 e4 e5
        exact .inl ⟨by rw [e3, e5], rfl, by simp⟩
      · injection e1 with e3 e4 e5
        exact .inr ⟨g, off, cg, by rw [e3], e2, fun j u hj => by simp at hj⟩
    · exact Src.take (k := 2) hs2 (by omega) h0
  · exact (hg g (by have h9 := hg'; cases og <;> exact h9)).1
  · exact Pth.take hp (by rw [List.take_take, Nat.min_self]) (by omega)
  · rw [List.take_take, Nat.min_eq_left hle.2.1]; exact htk
  · refine hw.trans hf (fun k hk hh => ?_)
    rcases hh with e | e | e | e
    · exact e
    · omega
    · omega
    · omega
  · have : (its.map fun q => (q, mkL q.2 (F.take m'.en))) = its.map fun q => (q, mkL q.2 F) := List.map_congr_left (fun q hq => by
      obtain ⟨i, hi⟩ := List.getElem?_of_mem hq
      have h9 := (Pth.sum hp i q hi).2.2.2.2.2.2
      rw [hmk q.2 h9])
    rw [this]
    exact hr
  · rcases hend with ⟨h1, h2, _⟩ | ⟨q, n2, h1, h2, h3, h4, h5⟩
    · exact .inl ⟨h1, h2⟩
    · exact .inr ⟨q, n2, h1, h2, by rw [hmk m' (Nat.le_refl _)]; exact h3, h4, h5⟩
theorem infoIt : (Tryz.prog.info? 82).map (fun i => (i.zero, i.size, i.bytes)) = some (some (.agg #[.int .i64 0, .int .i64 0, .int .i64 0, .bool false, .int .i64 0, .bool false, .int .i64 0, .int .i64 0]), 8, 64) := by kernel_rfl
theorem src_it {W : World} {b : Nat} {x : Tk × Mk} (h : Blk W b #[.int .i64 (x.1.kind : Int), .int .i64 (x.1.frm : Int), .int .i64 (x.1.en : Int), .bool x.1.op, .int .i64 (x.2.await : Int), .bool x.2.body, .int .i64 (x.2.frm : Int), .int .i64 (x.2.en : Int)] 82) : Src W (.slice (some ⟨b, 0, none⟩) 1 1) 1 (cellI x) := by
  refine .inr ⟨_, 0, 1, rfl, h.lt, fun j u hj => ?_⟩
  rw [Nat.zero_add, h.cell j]
  simpa [cellI] using hj
theorem rdCells_re {b b' : Nat} {T T' : ByteArray} {a a' : Nat} {m m' : Mk} {pv pv' : Value} {df df' : Int} (h : rdCells b T a m pv df = rdCells b' T' a' m' pv' df') (x : Int) : rdCells b T a m pv x = rdCells b' T' a' m' pv' x := by
  unfold rdCells at *
  simp_all
theorem blk_eq {W : World} {b : Nat} {c c' : Array Value} {t t' : TypeId} (h : Blk W b c t) (h' : Blk W b c' t') : c = c' := by
  have := Option.some.inj (Eq.trans (Eq.symm h) h')
  injection this
theorem wpIn_at {F : Fence} {n : Nat} {P : Program} {c : Code} {Q : Exit → Act → World → Prop} {a : Act} {w : World} (WF : World) (h1 : ∀ a', Q .normal a' WF) (h2 : c.wpIn F n P (fun e _ w' => e = .normal ∧ w' = WF) a w) : c.wpIn F n P Q a w :=
  wpIn_mono h2 (fun e a' w' h => by
    obtain ⟨rfl, rfl⟩ := h
    exact h1 a')
def atC (W : World) (b : Nat) : Nat := match W.cell? ⟨b, 0, none⟩ with
  | some (.int _ i) => i.toNat
  | _ => 0
theorem atC_of {W : World} {b k : Nat} {t : TypeId} (h : Blk W b #[.int .i64 (k : Int)] t) : atC W b = k := by
  unfold atC
  have := h.cell 0
  simp at this
  rw [this]
  simp
def RkL (I : List (Tk × Mk)) (D : List Dl) (M : Int) (q : Tk × Mk) (X : Lx) (nn ni y rb b : Nat) (df1 : Int) (T : ByteArray) (a1 : Nat) (m1 : Mk) (og1 : Option Addr) (ng1 cg1 : Nat) (W3 wr : World) : Prop :=
  ∃ (k : Nat) (dfk : Int), nn ≤ k ∧ k ≤ ni ∧ Blk wr y #[.int .i64 (k : Int)] 3 ∧ Blk wr rb (rdCells b T a1 m1 (.slice og1 ng1 cg1) dfk) 97 ∧ (∀ n' df' B, Sc I D M q X k dfk n' df' B → Sc I D M q X nn df1 n' df' B) ∧ Frm (fun j => j = y ∨ j = rb) W3 wr
theorem four_blk (w : World) (c0 c1 c2 c3 : Array Value) (t0 t1 t2 t3 : TypeId) : Blk ((((w.alloc (.cells c0 t0)).alloc (.cells c1 t1)).alloc (.cells c2 t2)).alloc (.cells c3 t3)) w.heap.size c0 t0 ∧ Blk ((((w.alloc (.cells c0 t0)).alloc (.cells c1 t1)).alloc (.cells c2 t2)).alloc (.cells c3 t3)) (w.heap.size + 1) c1 t1 ∧ Blk ((((w.alloc (.cells c0 t0)).alloc (.cells c1 t1)).alloc (.cells c2 t2)).alloc (.cells c3 t3)) (w.heap.size + 1 + 1) c2 t2 ∧ Blk ((((w.alloc (.cells c0 t0)).alloc (.cells c1 t1)).alloc (.cells c2 t2)).alloc (.cells c3 t3)) (w.heap.size + 1 + 1 + 1) c3 t3 ∧
    Below w.heap.size w ((((w.alloc (.cells c0 t0)).alloc (.cells c1 t1)).alloc (.cells c2 t2)).alloc (.cells c3 t3)) ∧ ((((w.alloc (.cells c0 t0)).alloc (.cells c1 t1)).alloc (.cells c2 t2)).alloc (.cells c3 t3)).heap.size = w.heap.size + 4 := by
  have h1 := Blk.new (w.alloc (.cells c0 t0)) c1 t1
  have h2 := Blk.new ((w.alloc (.cells c0 t0)).alloc (.cells c1 t1)) c2 t2
  have h3 := Blk.new (((w.alloc (.cells c0 t0)).alloc (.cells c1 t1)).alloc (.cells c2 t2)) c3 t3
  simp only [World.size_alloc] at h1 h2 h3
  refine ⟨(((Blk.new w c0 t0).alloc _).alloc _).alloc _, (h1.alloc _).alloc _, h2.alloc _, h3, ?_, by simp only [World.size_alloc]⟩
  exact ((((Below.refl w.heap.size w).alloc (Nat.le_refl _) _).alloc (by rw [World.size_alloc]; omega) _).alloc (by rw [World.size_alloc, World.size_alloc]; omega) _).alloc (by rw [World.size_alloc, World.size_alloc, World.size_alloc]; omega) _
section
variable (w : World) (b : Nat) (s : ByteArray) (I : List (Tk × Mk)) (E : Mk) (D : List Dl) (oi : Option Addr) (ni ci : Nat) (od : Option Addr) (nd cd : Nat) (hV : DocV w b s I E D oi ni ci od nd cd)
  (rb : Nat) (T : ByteArray) (a0 : Nat) (m0 : Mk) (F0 : List Dl) (og : Option Addr) (ng cg : Nat) (hz : Rz w w.heap.size b rb T a0 m0 F0 [] a0 m0 F0 og ng cg (-1)) (hng : ∀ g, (Value.slice og ng cg).ownBlock = some g → g < w.heap.size)
  (hbr : b ≠ rb) (hir : ∀ g off, oi = some ⟨g, off, none⟩ → g ≠ rb) (hdr : ∀ g off, od = some ⟨g, off, none⟩ → g ≠ rb) (h0 : 0 < rb) (hT : Tx w) (hs : T.size ≤ 900)
  (at' : Nat) (d n : ByteArray) (ha : at' ≤ 1000000) (hd : d.size ≤ 1000000) (hn : n.size ≤ 1000000)
include hV hz hng hbr hir hdr h0 hT hs ha hd hn
set_option maxRecDepth 100000 in
set_option maxHeartbeats 8000000 in
theorem reread_any : Calls Tryz.prog 34 #[.pointer (some ⟨rb, 0, none⟩), .agg #[.int .i64 (at' : Int), .string d, .string n]] w fun e w' => ∃ n0 : Nat, n0 ≤ ni ∧ (∀ i q, i < n0 → I[i]? = some q → prB at' d.size q.1 = false) ∧ (∀ i q, n0 ≤ i → I[i]? = some q → prB at' d.size q.1 = true) ∧ RdR w b rb T a0 m0 F0 I D ((n.size : Int) - (d.size : Int)) n0 e w' := by
  have HV := Lib.hid hV
  have HZ := Lib.hid hz
  have hrb := hz.rd.blk.lt
  refine (callsIn_wide (n := 6)).1 ?_
  have hfn : Fence.wide.fn 34 := trivial
  obtain ⟨z, hzz⟩ : ∃ x, w.heap.size = x := ⟨_, rfl⟩
  -- the boxes
  obtain ⟨W0, hW0⟩ : ∃ X, (((w.alloc (.cells #[.pointer (some ⟨rb, 0, none⟩)] 75)).alloc (.cells #[.int .i64 (at' : Int), .string d, .string n] 35)).alloc (.cells #[.slice none 0 0] 64)).alloc (.cells #[.int .i64 0] 3) = X := ⟨_, rfl⟩
  have hf4 := four_blk w #[.pointer (some ⟨rb, 0, none⟩)] #[.int .i64 (at' : Int), .string d, .string n] #[.slice none 0 0] #[.int .i64 0] 75 35 64 3
  rw [hW0, hzz] at hf4
  obtain ⟨k2, k3, k4, k5, hB0, hz0⟩ := hf4
  have hrdb := hz.rd.blk
  unfold rdCells at hrdb
  have hB0' : Below w.heap.size w W0 := by rw [hzz]; exact hB0
  have kr0 := hrdb.below hB0'
  have hV0 := hV.below hB0'
  have r0 : W0.cell? ⟨rb, 0, none⟩ = some (.pointer (some ⟨b, 0, none⟩)) := kr0.cell 0
  have d1 : W0.cell? ⟨b, 1, none⟩ = some (.slice oi ni ci) := hV0.blk.cell 1
  have b2 : W0.cell? ⟨z, 0, none⟩ = some (.pointer (some ⟨rb, 0, none⟩)) := k2.cell 0
  have HV0 := Lib.hid hV0
  have K2 := Lib.hid (And.intro k2 (And.intro k3 (And.intro k4 k5)))
  have HB0 := Lib.hid hB0'
  have KR0 := Lib.hid kr0
  clear hrdb hB0 hB0' kr0 hV0 k2 k3 k4 k5
  refine callsIn_of_wp_marks Tryz.func34 rfl hfn ?_ rfl
  refine (wpIn_wide (n := 6)).2 ?_
  simp only [Tryz.ntmps34, List.size_toArray, List.length_cons, List.length_nil, Nat.reduceAdd, Nat.reduceSub, Array.replicate_succ, Array.replicate_zero, List.push_toArray, List.append_toArray, List.nil_append, List.cons_append]
  go_wp2_with fail
  go_step3
  go_upto_region 2 with fail
  obtain ⟨W1, hW1⟩ : ∃ X, W0.alloc (.cells #[.slice oi ni ci] 64) = X := ⟨_, rfl⟩
  have hB1 : Below W0.heap.size W0 W1 := by rw [← hW1]; exact (Below.refl _ _).alloc (Nat.le_refl _) _
  have k6 : Blk W1 (z + 4) #[.slice oi ni ci] 64 := by rw [← hW1, ← hz0]; exact Blk.new _ _ _
  rw [hW1]
  have hV1 := HV0.out.below hB1
  have kr1 := KR0.out.below hB1
  have K1 := Lib.hid (And.intro (K2.out.1.below hB1) (And.intro (K2.out.2.1.below hB1) (And.intro (K2.out.2.2.1.below hB1) (And.intro (K2.out.2.2.2.below hB1) k6))))
  have HB1 := Lib.hid (HB0.out.trans (hB1.mono HB0.out.size))
  have r0' : W1.cell? ⟨rb, 0, none⟩ = some (.pointer (some ⟨b, 0, none⟩)) := kr1.cell 0
  have b2' : W1.cell? ⟨z, 0, none⟩ = some (.pointer (some ⟨rb, 0, none⟩)) := K1.out.1.cell 0
  have HF := Lib.hid (firstB_any W1 b s I E D oi ni ci od nd cd hV1 at' d n (z + 1) K1.out.2.1 ha hd)
  have HV1 := Lib.hid hV1
  have KR1 := Lib.hid kr1
  have hW1s : W1.heap.size = z + 5 := by rw [← hW1, World.size_alloc, hz0]
  have HW1S := Lib.hid hW1s
  clear hW1 hB1 k6 hV1 kr1 r0 d1 b2 HV0 K2 HB0 KR0 hz0 hW0 hW1s
  go_wp2_with fail
  refine HF.out.mono ?_
  rintro e W2 ⟨n0, rfl, hn0, hlo, hhi, hb2⟩
  have HN0 := Lib.hid (And.intro hn0 (And.intro hlo hhi))
  have HV2 := Lib.hid (HV1.out.below hb2)
  have KR2 := Lib.hid (KR1.out.below hb2)
  have K2 := Lib.hid (And.intro (K1.out.1.below hb2) (And.intro (K1.out.2.1.below hb2) (And.intro (K1.out.2.2.1.below hb2) (And.intro (K1.out.2.2.2.1.below hb2) (K1.out.2.2.2.2.below hb2)))))
  have HB2 := Lib.hid (HB1.out.trans (hb2.mono HB1.out.size))
  have hs2 := hb2.size
  rw [HW1S.out] at hs2
  clear hlo hhi hb2 HF HV1 KR1 K1 HB1 r0' b2'
  obtain ⟨y, hy⟩ : ∃ y, W2.heap.size = y := ⟨_, rfl⟩
  have e1 : ((W2.alloc (.cells #[.int .i64 (n0 : Int)] 3))).cell? ⟨z + 1, 1, none⟩ = some (.string d) := (K2.out.2.1.alloc _).cell 1
  have e2 : ((W2.alloc (.cells #[.int .i64 (n0 : Int)] 3))).cell? ⟨z + 1, 2, none⟩ = some (.string n) := (K2.out.2.1.alloc _).cell 2
  go_upto_region 4 with fail
  go_step3
  obtain ⟨W3, hW3⟩ : ∃ X, (W2.alloc (.cells #[.int .i64 (n0 : Int)] 3)).alloc (.cells #[.int .i64 ((n.size : Int) - (d.size : Int))] 3) = X := ⟨_, rfl⟩
  obtain ⟨M, hM⟩ : ∃ M, (n.size : Int) - (d.size : Int) = M := ⟨_, rfl⟩
  have hMb : -1000000 ≤ M ∧ M ≤ 1000000 := by omega
  have HM := Lib.hid hM
  have k7 : Blk W3 y #[.int .i64 (n0 : Int)] 3 := by rw [← hW3, ← hy]; exact (Blk.new _ _ _).alloc _
  have k8 : Blk W3 (y + 1) #[.int .i64 M] 3 := by
    have := Blk.new (W2.alloc (.cells #[.int .i64 (n0 : Int)] 3)) #[.int .i64 ((n.size : Int) - (d.size : Int))] 3
    rw [World.size_alloc, hW3, hy, hM] at this
    exact this
  have hB3 : Below W2.heap.size W2 W3 := by rw [← hW3]; exact ((Below.refl _ _).alloc (Nat.le_refl _) _).alloc (by rw [World.size_alloc]; omega) _
  have hs3 : W3.heap.size = y + 2 := by rw [← hW3, World.size_alloc, World.size_alloc, hy]
  rw [hW3, hM]
  have HV3 := Lib.hid (HV2.out.below hB3)
  have KR3 := Lib.hid (KR2.out.below hB3)
  have K3 := Lib.hid (And.intro (K2.out.1.below hB3) (And.intro (K2.out.2.1.below hB3) (And.intro (K2.out.2.2.1.below hB3) (And.intro (K2.out.2.2.2.1.below hB3) (And.intro (K2.out.2.2.2.2.below hB3) (And.intro k7 k8))))))
  have HB3 := Lib.hid (HB2.out.trans (hB3.mono HB2.out.size))
  have b2 : W3.cell? ⟨z, 0, none⟩ = some (.pointer (some ⟨rb, 0, none⟩)) := K3.out.1.cell 0
  rw [hy] at hs2
  clear hW3 hM k7 k8 hB3 HV2 KR2 K2 HB2 e1 e2 hy
  go_wp2_with fail
  refine (items_any W3 rb).mono ?_
  rintro e W4 ⟨rfl, ty, rfl⟩
  rw [hs3]
  have k9 : Blk (W3.alloc (.cells #[.pointer (some ⟨rb, 0, none⟩)] ty)) (y + 2) #[.pointer (some ⟨rb, 0, none⟩)] ty := by rw [← hs3]; exact Blk.new _ _ _
  have hB4 : Below W3.heap.size W3 (W3.alloc (.cells #[.pointer (some ⟨rb, 0, none⟩)] ty)) := (Below.refl _ _).alloc (Nat.le_refl _) _
  have hs4 : (W3.alloc (.cells #[.pointer (some ⟨rb, 0, none⟩)] ty)).heap.size = y + 3 := by rw [World.size_alloc, hs3]
  obtain ⟨W4, hW4⟩ : ∃ X, W3.alloc (.cells #[.pointer (some ⟨rb, 0, none⟩)] ty) = X := ⟨_, rfl⟩
  rw [hW4] at k9 hB4 hs4 ⊢
  have HV4 := Lib.hid (HV3.out.below hB4)
  have HB4 := Lib.hid (HB3.out.trans (hB4.mono HB3.out.size))
  have HZ4 := Lib.hid (HZ.out.below (by exact HB4.out))
  have K4 := Lib.hid (And.intro (K3.out.1.below hB4) (And.intro (K3.out.2.2.1.below hB4) (And.intro (K3.out.2.2.2.1.below hB4) (And.intro (K3.out.2.2.2.2.1.below hB4) (And.intro (K3.out.2.2.2.2.2.1.below hB4) (K3.out.2.2.2.2.2.2.below hB4))))))
  have HT4 : Hid (Tx W4) := Lib.hid (hT.b HB4.out)
  clear hW4 hB4 K3 KR3 HB3 HV3 b2 hs3
  rw [hzz] at HZ4
  have hrz : rb < z := by omega
  have hzy : z + 4 < y := by omega
  have HK9 := Lib.hid k9
  have HSQ := Lib.hid (fun W (hW : Below W4.heap.size W4 W) => items_seq 5 (by omega) W z b rb (y + 2) T a0 m0 F0 og ng cg (-1) ty hs (HZ4.out.below hW) (fun g hg => by have := hng g hg; omega) hrz h0 (by omega) (HK9.out.below hW) (HT4.out.b hW))
  have HF0 : Hid (F0.take m0.en = F0) := Lib.hid (by rw [HZ.out.rd.en, List.take_length])
  have hmi : ∀ A B : World, (∀ k, k = rb → B.heap[k]? = A.heap[k]?) → RzI rb A B := fun A B h v hv => (cell_same (h rb rfl)).trans hv
  have hmk : ∀ A B : World, (∀ k, k = rb → B.heap[k]? = A.heap[k]?) → RzK rb A B := fun A B h b' T' a' m' pv df' hb => ⟨df', (h rb rfl).trans hb⟩
  have hmt : ∀ X Y Z, RzK rb X Y → RzK rb Y Z → RzK rb X Z := fun X Y Z h g b' T' a' m' pv df' hb => by
    obtain ⟨d1, h1⟩ := h _ _ _ _ _ _ hb
    exact g _ _ _ _ _ _ h1
  have HMI := Lib.hid (And.intro hmi (And.intro hmk hmt))
  have hlt4 : rb < W4.heap.size := by omega
  clear hmi hmk hmt k9 hV hz
  go_wp2_with fail
  refine (wpIn_wide (n := 6)).1 (wpTR (L := tksF T (T.size - a0) a0 (mkL m0 F0)) (St := RzSt z b rb T a0 m0 F0) (C := RzC z rb (y + 2)) (T0 := fun _ => False) (S := fun k => k = rb) (KI := RzI rb) (KS := RzK rb) (gf := 67) (lb := #[.pointer (some ⟨y + 2, 0, none⟩)]) rfl (enters_of Tryz.func67 (by kernel_rfl) rfl) HSQ.out (fun k hk => by rcases hk with e | e <;> omega) (fun k hk => by omega) HMI.out.1 HMI.out.2.1 HMI.out.2.2 (fun k hk => hk.elim) ?hps ?hE
    (RkI w z y rb I D M (mkL m0 F0) oi ni ci n0) (RkX w z y rb b T a0 m0 F0 I D M n0 (.exit 0)) (by rw [hs4]; exact RkI.abid hrz hzy hzz) (fun c => by rw [hs4]; exact RkX.abid hrz hzy hzz c) ?start ?round ?fin ?stop)
  case hps =>
    rintro pre x TT W vs ⟨its1, _, _, _, _, _, _, _, _, h1, _⟩
    have hm : vs ∈ (pre ++ [(x, vs)]).map Prod.snd := by simp
    rw [h1] at hm
    obtain ⟨q, _, hq⟩ := List.mem_map.1 hm
    rw [← hq]
    rfl
  case hE =>
    rintro prs TT W W' ⟨its, a, m, F, og1, ng1, cg1, df1, hz1, hv1, hg1, hL1⟩ hf hnt
    have hno : ∀ g, (Value.slice og1 ng1 cg1).ownBlock = some g → g ≠ W4.heap.size + 1 := fun g hg e => by
      rcases Nat.lt_or_ge g z with h | h
      · omega
      · exact hnt (e ▸ hg1 g hg h)
    exact ⟨its, a, m, F, og1, ng1, cg1, df1, ⟨⟨hz1.rd.blk.frm hf (by omega), hz1.rd.del.frm hf hno, hz1.rd.ln, hz1.rd.en, hz1.rd.le, hz1.rd.cap, hz1.rd.ow.elim .inl (fun k => .inr (own_frm hf k hno)), hz1.rd.db⟩, hz1.pth, hz1.tk, hz1.le, hz1.en, hz1.aw, hz1.bd⟩, hv1, hg1, hL1⟩
  case start =>
    intro W hB hzW
    have kr := HZ4.out.rd.blk.below hB
    unfold rdCells at kr
    exact ⟨[], n0, -1, .slice none 0 0, K4.out.1.below hB, K4.out.2.1.below hB, World.ownsRow_nil _ _ _ _, (fun g hg => by cases hg), K4.out.2.2.1.below hB, K4.out.2.2.2.1.below hB, K4.out.2.2.2.2.1.below hB, K4.out.2.2.2.2.2.below hB, kr.cell 8, rfl, Rr.nil, (fun k hk => hk.elim), by omega, (Frm.of_below HB4.out).trans (Frm.of_below (p := fun k => k = rb) (hB.mono (Nat.le_refl _))) (fun _ _ h => h), HN0.out.1⟩
  case fin =>
    rintro prs TT W hmap ⟨its, nn, df, v, b2, b4, ho, hv, b5, b6, b7, b8, hc, hi, hr, hTT, hW, hF, hn⟩ hSt hWz hWd
    obtain ⟨its1, a1, m1, F1, og1, ng1, cg1, df1, hz1, hv1, hg1, hL1⟩ := hSt
    have hits : its = its1 := its_inj _ _ (hi.symm.trans hv1)
    subst hits
    rw [hmap] at hL1
    have hT0 : tksF T (T.size - a1) a1 (mkL m1 F1) = [] := by
      have h9 := congrArg List.length hL1
      rw [List.length_append] at h9
      exact List.eq_nil_of_length_eq_zero (by omega)
    have ha1 := rz_end hT0 hz1.le
    have hL2 : tksF T (T.size - a0) a0 (mkL m0 F0) = prs.map Prod.fst ++ tksF T (T.size - a1) a1 (mkL m1 F1) := by rw [hT0, List.append_nil, hmap]
    have hah := rz_aheads hz1.pth hz1.tk HF0.out hv1 hL2
    rw [withX_map hah] at hr
    have kr := hz1.rd.blk
    have hE : RkE w z y rb b T a0 m0 F0 I D M n0 v its 0 a1 m1 F1 og1 ng1 cg1 df1 W := ⟨nn, df, ho, fun g hg => (hv g hg).2, hz1.rd.del, hz1.rd.ln, hz1.rd.cap, fun g hg => ⟨hz1.rd.db g hg, fun h => hTT g (hg1 g hg h)⟩, by have := hz1.rd.en; omega, hz1.pth, hz1.tk, hr, .inl ⟨rfl, ha1, hz1.rd.en⟩, hW, hF⟩
    have HE := Lib.hid hE
    have HWd := Lib.hid hWd
    obtain ⟨tl, htl⟩ : ∃ tl : Nat, 0 = tl := ⟨0, rfl⟩
    rw [htl] at HE
    rw [show (0 : Int) = (tl : Int) from by omega] at b5
    clear hE hah hL2 ha1 hT0 hL1 hr hi hv1 hg1 hmap hz1 ho hv hc hF hTT htl b6 b7 b8
    dsimp only
    unfold rdCells at kr
    obtain ⟨fo, fc, rfl⟩ : ∃ fo fc, v = .slice fo its.length fc := by
      obtain ⟨nn9, df9, ho, _⟩ := HE.out
      rcases ho.2 with ⟨g1, g2⟩ | ⟨g, cap, cur, g1, _⟩
      · exact ⟨none, 0, by rw [g1, g2]⟩
      · exact ⟨_, _, g1⟩
    have r7 : W.cell? ⟨rb, 7, none⟩ = some (.slice og1 ng1 cg1) := kr.cell 7
    have r6 : W.cell? ⟨rb, 6, none⟩ = some (.int .i64 (m1.en : Int)) := kr.cell 6
    have f7 := kr.frozen 7
    have c2 : W.cell? ⟨z, 0, none⟩ = some (.pointer (some ⟨rb, 0, none⟩)) := b2.cell 0
    have p0 : (0 : Int) ≤ (m1.en : Int) := by omega
    have p1 : (m1.en : Int) ≤ (cg1 : Int) := by
      obtain ⟨_, _, _, _, _, g1, g2, _, g3, _⟩ := HE.out
      omega
    have HKR := Lib.hid kr
    have HB := Lib.hid (And.intro b4 b5)
    have hrbW := kr.lt
    have hsrc : (og1 = none ∧ cg1 = 0 ∧ m1.en = 0) ∨ ∃ g off, og1 = some ⟨g, off, none⟩ := by
      obtain ⟨_, _, _, _, g0, g1, g2, _, g3, _⟩ := HE.out
      rcases g0 with ⟨e1, e2, _⟩ | ⟨g, off, c, e1, _⟩
      · injection e1 with e3 e4 e5
        exact .inl ⟨e3, e5, by omega⟩
      · injection e1 with e3 e4 e5
        exact .inr ⟨g, off, e3⟩
    clear kr b2 b4 b5
    generalize hEN : m1.en = en at *
    go_wp2_with fail
    go_cut [] from 95 to 107 (fun wx => (∃ dv, wx.cell? ⟨rb, 7, none⟩ = some dv ∧ dv = .slice og1 en cg1 ∧ Blk wx rb #[.pointer (some ⟨b, 0, none⟩), .string T, .int .i64 (a1 : Int), .int .i64 (m1.await : Int), .bool m1.body, .int .i64 (m1.frm : Int), .int .i64 (en : Int), dv, .int .i64 df1] 97) ∧ Frm (fun k => k = rb) W wx)
    case first =>
      rcases hsrc with ⟨rfl, rfl, rfl⟩ | ⟨g9, off9, rfl⟩
      all_goals
        go_region
        all_goals
          go_wp2_with fail
          go_meet
          case rel => exact ⟨⟨_, (HKR.out.set 7 _).drew.cell 7, rfl, (HKR.out.set 7 _).drew⟩, (Frm.setCell (p := fun k => k = rb) (Frm.refl _ W) 7 (.inl rfl) _).drew⟩
    case rest =>
      obtain ⟨⟨dv, hdv, rfl, kr5⟩, hF5⟩ := hcut
      have k4 := HB.out.1.frm hF5 (by omega)
      have k5 := HB.out.2.frm hF5 (by omega)
      have x4 : wc.cell? ⟨z + 1 + 1, 0, none⟩ = some (.slice fo its.length fc) := k4.cell 0
      have x5 : wc.cell? ⟨z + 1 + 1 + 1, 0, none⟩ = some (.int .i64 (tl : Int)) := k5.cell 0
      have f4 := k4.frozen 0
      have f5 := k5.frozen 0
      have HK := Lib.hid (And.intro kr5 (And.intro hF5 (And.intro k4 k5)))
      clear kr5 hF5 k4 k5 r7 r6 f7 c2 hdv hsrc
      go_wp2_with fail
      go_region
      all_goals
        go_wp2_with fail
        rw [Exit.noGoto_ret]
        obtain ⟨kr5, hF5, k4, k5⟩ := HK.out
        have k4' := (k4.set 0 (.slice fo its.length fc)).other (b' := z + 1 + 1 + 1) 0 (.int .i64 (tl : Int)) (by omega)
        have k5' := (k5.other (b' := z + 1 + 1) 0 (.slice fo its.length fc) (by omega)).set 0 (.int .i64 (tl : Int))
        have kr' := (kr5.other (b' := z + 1 + 1) 0 (.slice fo its.length fc) (by omega)).other (b' := z + 1 + 1 + 1) 0 (.int .i64 (tl : Int)) (by omega)
        have hFs : Frm (fun k => k = z + 1 + 1 ∨ k = z + 1 + 1 + 1) wc (((wc.setCell ⟨z + 1 + 1, 0, none⟩ (.slice fo its.length fc)).setCell ⟨z + 1 + 1 + 1, 0, none⟩ (.int .i64 (tl : Int))).drew) := ((Frm.setCell (p := fun k => k = z + 1 + 1 ∨ k = z + 1 + 1 + 1) (Frm.refl _ wc) 0 (.inl (.inl rfl)) _).setCell 0 (.inl (.inr rfl)) _).drew
        obtain ⟨Wf, hWf⟩ : ∃ X, ((wc.setCell ⟨z + 1 + 1, 0, none⟩ (.slice fo its.length fc)).setCell ⟨z + 1 + 1 + 1, 0, none⟩ (.int .i64 (tl : Int))).drew = X := ⟨_, rfl⟩
        have k4f := k4'.drew
        have k5f := k5'.drew
        have krf := kr'.drew
        rw [hWf] at hFs k4f k5f krf ⊢
        have hFF : Frm (fun k => k = rb ∨ k = z + 1 + 1 ∨ k = z + 1 + 1 + 1) W Wf := (hF5.mono (fun _ _ e => .inl e)).trans hFs (fun k _ e => .inr e)
        have hdW := HWd.out
        have hdl : W4.heap.size < W.heap.size := by omega
        have hdf : Wf.heap[W4.heap.size]? = some (.deferred (some [])) := (hFF.block _ hdl (fun e => by rcases e with e | e | e <;> omega)).trans hdW
        have hFg : Frm (fun k => k = y + 3) Wf (Wf.putObj W4.heap.size (.deferred none)) := frm_put Wf _ (by omega)
        have k4g := k4f.frm hFg (by omega)
        have k5g := k5f.frm hFg (by omega)
        have krg := krf.frm hFg (by omega)
        refine ⟨by simp, .inl ⟨_, _, rfl, run_takeDeferred hdf, ?_⟩⟩
        refine ⟨.tuple #[.slice fo its.length fc, .int .i64 (tl : Int)], ?_, n0, HN0.out.1, HN0.out.2.1, HN0.out.2.2, ?_⟩
        · have e4 : (Wf.putObj W4.heap.size (.deferred none)).cell? ⟨z + 1 + 1, 0, none⟩ = some (.slice fo its.length fc) := k4g.cell 0
          have e5 : (Wf.putObj W4.heap.size (.deferred none)).cell? ⟨z + 1 + 1 + 1, 0, none⟩ = some (.int .i64 (tl : Int)) := k5g.cell 0
          simp [results, Tryz.f34, go_sem, e4, e5]
        · rw [HM.out]
          refine RkE.done HE.out (hFF.mono (q := fun k => k = rb ∨ k = z + 1 + 1 ∨ k = z + 1 + 1 + 1 ∨ k = y + 3) (fun _ _ e => by rcases e with e | e | e; exact .inl e; exact .inr (.inl e); exact .inr (.inr (.inl e))) |>.trans hFg (fun k _ e => .inr (.inr (.inr e)))) hzz hzy hrz HF0.out HZ.out.rd.le HZ.out.rd.en ?_
          unfold rdCells
          rw [hEN]
          exact krg
  case stop =>
    rintro c pre TT W ⟨rfl, its, nn, n2, df, df2, v, q, F1, og1, ng1, cg1, b2, b4, ho, hv, b5, kr, hs1, hl1, hc1, hg1, hq1, hp1, htk1, hr1, hsc1, hn1, hW, hF⟩ hWz hWd
    have hE : RkE w z y rb b T a0 m0 F0 I D M n0 v its (I.length - n2) q.1.frm q.2 F1 og1 ng1 cg1 df2 W := ⟨nn, df, ho, hv, hs1, hl1, hc1, hg1, hq1, hp1, htk1, hr1, .inr ⟨q, n2, rfl, rfl, hsc1, hn1, rfl⟩, hW, hF⟩
    obtain ⟨tl, htl⟩ : ∃ tl : Nat, I.length - n2 = tl := ⟨_, rfl⟩
    rw [htl] at hE
    rw [show (I.length : Int) - (n2 : Int) = (tl : Int) from by omega] at b5
    obtain ⟨a1, ha1⟩ : ∃ a1, q.1.frm = a1 := ⟨_, rfl⟩
    obtain ⟨m1, hm1⟩ : ∃ m1, q.2 = m1 := ⟨_, rfl⟩
    rw [ha1, hm1] at hE kr
    have HE := Lib.hid hE
    have HWd := Lib.hid hWd
    clear hE ho hv hs1 hl1 hc1 hg1 hq1 hp1 htk1 hr1 hsc1 hn1 hF htl ha1 hm1
    refine (wpIn_wide (n := 6)).2 ?_
    unfold rdCells at kr
    obtain ⟨fo, fc, rfl⟩ : ∃ fo fc, v = .slice fo its.length fc := by
      obtain ⟨nn9, df9, ho, _⟩ := HE.out
      rcases ho.2 with ⟨g1, g2⟩ | ⟨g, cap, cur, g1, _⟩
      · exact ⟨none, 0, by rw [g1, g2]⟩
      · exact ⟨_, _, g1⟩
    have r7 : W.cell? ⟨rb, 7, none⟩ = some (.slice og1 ng1 cg1) := kr.cell 7
    have r6 : W.cell? ⟨rb, 6, none⟩ = some (.int .i64 (m1.en : Int)) := kr.cell 6
    have f7 := kr.frozen 7
    have c2 : W.cell? ⟨z, 0, none⟩ = some (.pointer (some ⟨rb, 0, none⟩)) := b2.cell 0
    have p0 : (0 : Int) ≤ (m1.en : Int) := by omega
    have p1 : (m1.en : Int) ≤ (cg1 : Int) := by
      obtain ⟨_, _, _, _, _, g1, g2, _, g3, _⟩ := HE.out
      omega
    have HKR := Lib.hid kr
    have HB := Lib.hid (And.intro b4 b5)
    have hrbW := kr.lt
    have hsrc : (og1 = none ∧ cg1 = 0 ∧ m1.en = 0) ∨ ∃ g off, og1 = some ⟨g, off, none⟩ := by
      obtain ⟨_, _, _, _, g0, g1, g2, _, g3, _⟩ := HE.out
      rcases g0 with ⟨e1, e2, _⟩ | ⟨g, off, c, e1, _⟩
      · injection e1 with e3 e4 e5
        exact .inl ⟨e3, e5, by omega⟩
      · injection e1 with e3 e4 e5
        exact .inr ⟨g, off, e3⟩
    clear kr b2 b4 b5
    generalize hEN : m1.en = en at *
    go_wp2_with fail
    go_cut [] from 95 to 107 (fun wx => (∃ dv, wx.cell? ⟨rb, 7, none⟩ = some dv ∧ dv = .slice og1 en cg1 ∧ Blk wx rb #[.pointer (some ⟨b, 0, none⟩), .string T, .int .i64 (a1 : Int), .int .i64 (m1.await : Int), .bool m1.body, .int .i64 (m1.frm : Int), .int .i64 (en : Int), dv, .int .i64 df2] 97) ∧ Frm (fun k => k = rb) W wx)
    case first =>
      rcases hsrc with ⟨rfl, rfl, rfl⟩ | ⟨g9, off9, rfl⟩
      all_goals
        go_region
        all_goals
          go_wp2_with fail
          go_meet
          case rel => exact ⟨⟨_, (HKR.out.set 7 _).drew.cell 7, rfl, (HKR.out.set 7 _).drew⟩, (Frm.setCell (p := fun k => k = rb) (Frm.refl _ W) 7 (.inl rfl) _).drew⟩
    case rest =>
      obtain ⟨⟨dv, hdv, rfl, kr5⟩, hF5⟩ := hcut
      have k4 := HB.out.1.frm hF5 (by omega)
      have k5 := HB.out.2.frm hF5 (by omega)
      have x4 : wc.cell? ⟨z + 1 + 1, 0, none⟩ = some (.slice fo its.length fc) := k4.cell 0
      have x5 : wc.cell? ⟨z + 1 + 1 + 1, 0, none⟩ = some (.int .i64 (tl : Int)) := k5.cell 0
      have f4 := k4.frozen 0
      have f5 := k5.frozen 0
      have HK := Lib.hid (And.intro kr5 (And.intro hF5 (And.intro k4 k5)))
      clear kr5 hF5 k4 k5 r7 r6 f7 c2 hdv hsrc
      go_wp2_with fail
      go_region
      all_goals
        go_wp2_with fail
        rw [Exit.noGoto_ret]
        obtain ⟨kr5, hF5, k4, k5⟩ := HK.out
        have k4' := (k4.set 0 (.slice fo its.length fc)).other (b' := z + 1 + 1 + 1) 0 (.int .i64 (tl : Int)) (by omega)
        have k5' := (k5.other (b' := z + 1 + 1) 0 (.slice fo its.length fc) (by omega)).set 0 (.int .i64 (tl : Int))
        have kr' := (kr5.other (b' := z + 1 + 1) 0 (.slice fo its.length fc) (by omega)).other (b' := z + 1 + 1 + 1) 0 (.int .i64 (tl : Int)) (by omega)
        have hFs : Frm (fun k => k = z + 1 + 1 ∨ k = z + 1 + 1 + 1) wc (((wc.setCell ⟨z + 1 + 1, 0, none⟩ (.slice fo its.length fc)).setCell ⟨z + 1 + 1 + 1, 0, none⟩ (.int .i64 (tl : Int))).drew) := ((Frm.setCell (p := fun k => k = z + 1 + 1 ∨ k = z + 1 + 1 + 1) (Frm.refl _ wc) 0 (.inl (.inl rfl)) _).setCell 0 (.inl (.inr rfl)) _).drew
        obtain ⟨Wf, hWf⟩ : ∃ X, ((wc.setCell ⟨z + 1 + 1, 0, none⟩ (.slice fo its.length fc)).setCell ⟨z + 1 + 1 + 1, 0, none⟩ (.int .i64 (tl : Int))).drew = X := ⟨_, rfl⟩
        have k4f := k4'.drew
        have k5f := k5'.drew
        have krf := kr'.drew
        rw [hWf] at hFs k4f k5f krf ⊢
        have hFF : Frm (fun k => k = rb ∨ k = z + 1 + 1 ∨ k = z + 1 + 1 + 1) W Wf := (hF5.mono (fun _ _ e => .inl e)).trans hFs (fun k _ e => .inr e)
        have hdW := HWd.out
        have hdl : W4.heap.size < W.heap.size := by omega
        have hdf : Wf.heap[W4.heap.size]? = some (.deferred (some [])) := (hFF.block _ hdl (fun e => by rcases e with e | e | e <;> omega)).trans hdW
        have hFg : Frm (fun k => k = y + 3) Wf (Wf.putObj W4.heap.size (.deferred none)) := frm_put Wf _ (by omega)
        have k4g := k4f.frm hFg (by omega)
        have k5g := k5f.frm hFg (by omega)
        have krg := krf.frm hFg (by omega)
        refine ⟨by simp, .inl ⟨_, _, rfl, run_takeDeferred hdf, ?_⟩⟩
        refine ⟨.tuple #[.slice fo its.length fc, .int .i64 (tl : Int)], ?_, n0, HN0.out.1, HN0.out.2.1, HN0.out.2.2, ?_⟩
        · have e4 : (Wf.putObj W4.heap.size (.deferred none)).cell? ⟨z + 1 + 1, 0, none⟩ = some (.slice fo its.length fc) := k4g.cell 0
          have e5 : (Wf.putObj W4.heap.size (.deferred none)).cell? ⟨z + 1 + 1 + 1, 0, none⟩ = some (.int .i64 (tl : Int)) := k5g.cell 0
          simp [results, Tryz.f34, go_sem, e4, e5]
        · rw [HM.out]
          refine RkE.done HE.out (hFF.mono (q := fun k => k = rb ∨ k = z + 1 + 1 ∨ k = z + 1 + 1 + 1 ∨ k = y + 3) (fun _ _ e => by rcases e with e | e | e; exact .inl e; exact .inr (.inl e); exact .inr (.inr (.inl e))) |>.trans hFg (fun k _ e => .inr (.inr (.inr e)))) hzz hzy hrz HF0.out HZ.out.rd.le HZ.out.rd.en ?_
          unfold rdCells
          rw [hEN]
          exact krg
  case round =>
    rintro pre x vs rest TT W hLx ⟨its, nn, df, v, b2, b4, ho, hv, b5, b6, b7, b8, hc, hi, hr, hTT, hW, hF, hn⟩ hSt hTb hWz hrec hdef t1 t2
    obtain ⟨its1, a1, m1, F1, og1, ng1, cg1, df1, hz1, hv1, hg1, hL1⟩ := hSt
    obtain ⟨q, rfl, hvq⟩ := its_snoc hi hv1
    simp only at hvq
    subst hvq
    have hah := rz_aheads hz1.pth hz1.tk HF0.out hv1 hL1
    have hpl : its.length = pre.length := by
      have := congrArg List.length hi
      simp only [List.length_map] at this
      exact this.symm
    have hq0 : (its ++ [q])[its.length]? = some q := by simp
    have hX : (aheads (mkL m0 F0) pre)[pre.length]? = some (mkL q.2 F1) := by
      have := hah its.length q hq0
      rw [aheads_last, hpl, List.getElem?_append_left (by simp [aheads])] at this
      exact this
    have hsum := Pth.sum hz1.pth its.length q hq0
    have hle1 := Pth.le hz1.pth
    obtain ⟨bq, nq', hpi, hpq⟩ := Pth.split hz1.pth
    have hq2 : q.2 = nq' := hpq.2.1
    have hq1 : q.1.frm = bq := by rw [hpq.2.2.1]; exact (tkN_ok _ hpq.1).1
    rw [← hq2, ← hq1] at hpi
    have hr8 := hz1.rd.blk
    unfold rdCells at hr8
    have hdd : df1 = df := by
      have := hr8.cell 8
      rw [this] at hc
      simpa using hc
    subst hdd
    have hitl : its.length ≤ 900 := by
      have := hle1.2.2.1
      have h9 := hz1.le
      rw [List.length_append] at this
      omega
    obtain ⟨⟨tk, tf, te, top⟩, ⟨qA, qB, qf, qe⟩⟩ := q
    obtain ⟨Q, hQ⟩ : ∃ Q : Tk × Mk, (⟨⟨tk, tf, te, top⟩, ⟨qA, qB, qf, qe⟩⟩ : Tk × Mk) = Q := ⟨_, rfl⟩
    have HS := Lib.hid (And.intro hz1 (And.intro hv1 (And.intro hg1 (And.intro hL1 (And.intro hah (And.intro hX (And.intro hsum (And.intro hle1 (And.intro hpi hpl)))))))))
    have HI := Lib.hid (And.intro ho (And.intro hv (And.intro hi (And.intro hr (And.intro hTT (And.intro hF hn))))))
    have HB := Lib.hid (And.intro b2 (And.intro b4 (And.intro b5 (And.intro b6 (And.intro b7 b8)))))
    have HDF := Lib.hid hdef
    have hWb : rb < W.heap.size := hz1.rd.blk.lt
    clear hz1 hv1 hg1 hL1 hah hX hsum hle1 hpi hpl hq0 hpq hq2 hq1 hr8 ho hv hi hr hTT hF hn b2 b4 b5 b6 b7 b8 hLx hc
    dsimp only [aggI]
    gi_wp2_with fail
    obtain ⟨W2, hW2⟩ : ∃ X, W.alloc (.cells #[.int .i64 (tk : Int), .int .i64 (tf : Int), .int .i64 (te : Int), .bool top, .int .i64 (qA : Int), .bool qB, .int .i64 (qf : Int), .int .i64 (qe : Int)] 82) = X := ⟨_, rfl⟩
    have hB2 : Below W.heap.size W W2 := by rw [← hW2]; exact (Below.refl _ _).alloc (Nat.le_refl _) _
    have kz2 : Blk W2 W.heap.size #[.int .i64 (tk : Int), .int .i64 (tf : Int), .int .i64 (te : Int), .bool top, .int .i64 (qA : Int), .bool qB, .int .i64 (qf : Int), .int .i64 (qe : Int)] 82 := by rw [← hW2]; exact Blk.new _ _ _
    have hz2 : W2.heap.size = W.heap.size + 1 := by rw [← hW2, World.size_alloc]
    rw [hW2]
    clear hW2
    refine ⟨hB2.block _ (by omega), hB2.block _ (by omega), ⟨hB2.size, fun k hk _ => hB2.block k hk⟩, HMI.out.2.1 _ _ (fun k hk => hB2.block k (by omega)), fun r => ?_⟩
    obtain ⟨W3, hW3⟩ : ∃ X, W2.putObj (y + 3 + 1) (.loop r) = X := ⟨_, rfl⟩
    have hF3 : Frm (fun k => k = y + 4) W W3 := by
      rw [← hW3]
      exact (Frm.of_below hB2).trans (frm_put (p := fun k => k = y + 4) W2 _ rfl) (fun _ _ h => h)
    have hz3 : W3.heap.size = W.heap.size + 1 := by rw [← hW3, ← hz2]; simp
    have kz3 : Blk W3 W.heap.size #[.int .i64 (tk : Int), .int .i64 (tf : Int), .int .i64 (te : Int), .bool top, .int .i64 (qA : Int), .bool qB, .int .i64 (qf : Int), .int .i64 (qe : Int)] 82 := by
      rw [← hW3]
      exact (World.putObj_heap_other (by omega)).trans kz2
    rw [hW3]
    obtain ⟨bz, hbz⟩ : ∃ x, W.heap.size = x := ⟨_, rfl⟩
    have HBZ := Lib.hid hbz
    rw [hbz] at kz3
    have HF3 := Lib.hid hF3
    have hnyz : y + 5 ≤ bz := by omega
    obtain ⟨b2, b4, b5, b6, b7, b8⟩ := HB.out
    have b2 := b2.frm hF3 (by omega)
    have b4 := b4.frm hF3 (by omega)
    have b5 := b5.frm hF3 (by omega)
    have b6 := b6.frm hF3 (by omega)
    have b7 := b7.frm hF3 (by omega)
    have b8 := b8.frm hF3 (by omega)
    have kr3 := HS.out.1.rd.blk.frm hF3 (by omega)
    have HB3 := Lib.hid (And.intro b2 (And.intro b4 (And.intro b5 (And.intro b6 (And.intro b8 kz3)))))
    have hst : RkL I D M Q (mkL Q.2 F1) nn ni y rb b df1 T a1 m1 og1 ng1 cg1 W3 W3 := ⟨nn, df1, Nat.le_refl _, HI.out.2.2.2.2.2.2, b7, kr3, fun _ _ _ h => h, Frm.refl _ _⟩
    have HST := Lib.hid hst
    have HW3F : Hid (Frm (fun k => k = rb) w W3) := Lib.hid (HI.out.2.2.2.2.2.1.trans hF3 (fun k hk e => by omega))
    have h11 : 1 ≤ 4 := by omega
    clear hW3 hB2 kz2 hz2 b2 b4 b5 b6 b7 b8 kr3 kz3 hst hrec hdef
    gi_wp2_with fail
    gi_loopw [] (fun wr => RkL I D M Q (mkL Q.2 F1) nn ni y rb b df1 T a1 m1 og1 ng1 cg1 W3 wr) (fun wr => ni + 1 - atC wr y)
    case atStart => exact HST.out
    case round =>
      obtain ⟨k, dfk, hnk, hkn, kk, kr, hsc, hfr⟩ := hrel
      have x7 : wr.cell? ⟨y, 0, none⟩ = some (.int .i64 (k : Int)) := kk.cell 0
      have bb6 := HB3.out.2.2.2.1.frm hfr (by omega)
      have bb8 := HB3.out.2.2.2.2.1.frm hfr (by omega)
      have bbz := HB3.out.2.2.2.2.2.frm hfr (by omega)
      have x6 : wr.cell? ⟨z + 4, 0, none⟩ = some (.slice oi ni ci) := bb6.cell 0
      have x8 : wr.cell? ⟨y + 1, 0, none⟩ = some (.int .i64 M) := bb8.cell 0
      have xz : wr.cell? ⟨bz, 1, none⟩ = some (.int .i64 (tf : Int)) := bbz.cell 1
      have hms := atC_of kk
      have HMS := Lib.hid hms
      have HSC := Lib.hid hsc
      have HFR := Lib.hid hfr
      have HKK := Lib.hid (And.intro kk kr)
      clear kk kr hsc hfr bb6 bb8 bbz hms
      have HWR := Lib.hid (HV.out.frm (p := fun j => j = rb) (HW3F.out.trans HFR.out (fun j hj e => e.elim (fun h => by omega) id)) hbr hir hdr)
      by_cases hst : ∃ r, I[k]? = some r ∧ (r.1.frm : Int) + M ≤ (tf : Int)
      · obtain ⟨r, hr, hrm⟩ := hst
        have hkl : k < ni := by
          have := (List.getElem?_eq_some_iff.1 hr).1
          have := HV.out.its.len
          omega
        obtain ⟨g1, o1, hoi, hg1, hit⟩ := HWR.out.its.cells k r hr
        obtain ⟨⟨rk, rf, re, rop⟩, ⟨rA, rB, rff, ren⟩⟩ := r
        have c1 := hit.c1
        have c4 := hit.c4
        have c5 := hit.c5
        have c6 := hit.c6
        have c7 := hit.c7
        dsimp only at hrm c1 c4 c5 c6 c7
        have hsm := Pth.sum HV.out.path k _ hr
        have hrf : rf ≤ 900 := by
          have h1 := hsm.2.1
          have h2 := hsm.2.2.1
          have h9 := HV.out.sz
          dsimp only at h1 h2
          omega
        have r1 : IntKind.i64.wrap ((rf : Int) + M) = (rf : Int) + M := IntWalk.i64_in _ (by omega)
        rw [hoi] at x6
        have hni9 : ni ≤ 900 := by
          have h1 := HV.out.its.len
          have h2 := (Pth.le HV.out.path).2.2.1
          have h9 := HV.out.sz
          omega
        have r2 : IntKind.i64.wrap ((k : Int) + 1) = ((k + 1 : Nat) : Int) := by rw [IntWalk.i64_in _ (by omega)]; omega
        have t1 : (k : Int) < (ni : Int) := by omega
        have t0 : (0 : Int) ≤ (k : Int) := by omega
        have t1' : decide ((k : Int) < (ni : Int)) = true := by simp; omega
        have t2' : decide ((rf : Int) + M ≤ (tf : Int)) = true := by simp; omega
        have hok : rff ≤ ren ∧ ren ≤ D.length := by
          have hm := doc_mk w b s I E D oi ni ci od nd cd HV.out k
          unfold mkAt at hm
          rw [hr] at hm
          exact hm
        have hokQ : qf ≤ qe ∧ qe ≤ F1.length := by
          have h1 := (Pth.le HS.out.2.2.2.2.2.2.2.2.1).2.2.2.2 HZ.out.rd.le (by
            have h2 := congrArg List.length HS.out.1.tk
            rw [List.length_take] at h2
            have h3 := HZ.out.rd.en
            omega)
          exact h1
        have hD9 : D.length ≤ 900 := by
          have h1 := Pth.en_le HV.out.path
          have h2 := doc_len (hV := HV.out)
          have h3 := HV.out.en
          have h4 := HV.out.sz
          have h5 : Mk.zero.en = 0 := rfl
          omega
        have hF9 : F1.length ≤ 900 := by
          have h1 := HS.out.1.rd.en
          have h2 := HS.out.1.en
          have h3 := HS.out.1.le
          omega
        have HIT := Lib.hid (And.intro hr (And.intro hit (And.intro hok (And.intro hokQ (And.intro hD9 hF9)))))
        clear hit hr hsm hok hokQ hD9 hF9
        gi_wp2_with fail
        (refine quiet_lit (by kernel_rfl) (by kernel_rfl) (by kernel_rfl) ?_
         repeat (first
           | gi_big_quiet_step (fail)
           | (refine wpQuietIn_step (fun _ _ _ _ => trivial) (fun K hK => ?_)
              go_simp
              refine hK _ ?_
              clear hK K))
         refine wpQuietIn_nil ?_
         intro _ hw'
         obtain ⟨nq, hw''⟩ := hw'
         subst hw'')
        obtain ⟨W5, hW5⟩ : ∃ X, wr.drewN nq = X := ⟨_, rfl⟩
        have hB5 : Below wr.heap.size wr W5 := by rw [← hW5]; exact below_drewN (Below.refl _ _) nq
        rw [hW5]
        have hF5 : Frm (fun j => j = y ∨ j = rb) W3 W5 := HFR.out.trans (Frm.of_below (p := fun _ => False) hB5) (fun _ _ h => h.elim)
        have kr5 := HKK.out.2.below hB5
        have ky5 := HKK.out.1.below hB5
        have kz5 := HB3.out.2.2.2.2.2.frm hF5 (by omega)
        have HV5 := Lib.hid (HWR.out.below hB5)
        have hit5 := HIT.out.2.1.of (fun j => (Frm.of_below (p := fun _ => False) hB5).cell (a := ⟨g1, j, none⟩) hg1 (fun h => h))
        have hs5 := hF5.size
        have hy5 := ky5.lt
        have hr5 := kr5.lt
        have HF5 := Lib.hid hF5
        have HKR5 := Lib.hid (And.intro kr5 ky5)
        have hsrc : Src W5 (.slice og1 ng1 cg1) ng1 (cellsD F1) := (HS.out.1.rd.del.frm HF3.out (fun g hg e => by
          rcases Nat.lt_or_ge g z with h | h
          · omega
          · have := HI.out.2.2.2.2.1 g (HS.out.2.2.1 g hg h); omega)).frm hF5 (fun g hg e => by
          rcases e with e | e
          · rcases Nat.lt_or_ge g z with h | h
            · omega
            · have := HI.out.2.2.2.2.1 g (HS.out.2.2.1 g hg h); omega
          · exact HS.out.1.rd.db g hg e)
        have hgr : ∀ g, (Value.slice og1 ng1 cg1).ownBlock = some g → g ≠ rb := HS.out.1.rd.db
        have HSM := Lib.hid (fun W (hW : Below W5.heap.size W5 W) => same_rd W b rb T a1 m1 F1 og1 ng1 cg1 dfk s I E D oi ni ci od nd cd (HV5.out.below hW) (HKR5.out.1.below hW) (hsrc.below hW) HS.out.1.rd.ln hbr hdr hgr ⟨rA, rB, rff, ren⟩ ⟨qA, qB, qf, qe⟩ HIT.out.2.2.1.1 HIT.out.2.2.2.1.1 HIT.out.2.2.1.2 HIT.out.2.2.2.1.2 HIT.out.2.2.2.2.1 HIT.out.2.2.2.2.2)
        unfold aggM at HSM
        dsimp only at HSM
        clear x6 x7 x8 xz c1 c4 c5 c6 c7 HWR
        have x7 : W5.cell? ⟨y, 0, none⟩ = some (.int .i64 (k : Int)) := ky5.cell 0
        have f7 : W5.frozen? ⟨y, 0, none⟩ = false := ky5.frozen 0
        have x6 : W5.cell? ⟨z + 4, 0, none⟩ = some (.slice (some ⟨g1, o1, none⟩) ni ci) := by rw [← hoi]; exact (HB3.out.2.2.2.1.frm hF5 (by omega)).cell 0
        have x8 : W5.cell? ⟨y + 1, 0, none⟩ = some (.int .i64 M) := (HB3.out.2.2.2.2.1.frm hF5 (by omega)).cell 0
        have xz1 : W5.cell? ⟨bz, 1, none⟩ = some (.int .i64 (tf : Int)) := kz5.cell 1
        have xz4 : W5.cell? ⟨bz, 4, none⟩ = some (.int .i64 (qA : Int)) := kz5.cell 4
        have xz5 : W5.cell? ⟨bz, 5, none⟩ = some (.bool qB) := kz5.cell 5
        have xz6 : W5.cell? ⟨bz, 6, none⟩ = some (.int .i64 (qf : Int)) := kz5.cell 6
        have xz7 : W5.cell? ⟨bz, 7, none⟩ = some (.int .i64 (qe : Int)) := kz5.cell 7
        have xb2 : W5.cell? ⟨z, 0, none⟩ = some (.pointer (some ⟨rb, 0, none⟩)) := (HB3.out.1.frm hF5 (by omega)).cell 0
        have c1 := hit5.c1
        have c4 := hit5.c4
        have c5 := hit5.c5
        have c6 := hit5.c6
        have c7 := hit5.c7
        dsimp only at c1 c4 c5 c6 c7
        have HB5 := Lib.hid hB5
        clear hW5 hB5 hF5 kr5 ky5 kz5 hit5 hsrc hgr t1' t2'
        gi_wp2_with fail
        by_cases heq : (rf : Int) + M = (tf : Int)
        · have t3 : decide ((rf : Int) + M = (tf : Int)) = true := by simp; omega
          have t3' : ((rf : Int) + M == (tf : Int)) = true := by simp; omega
          (refine quiet_then 21 (by decide) (by kernel_rfl) (by kernel_rfl) (by kernel_rfl) (by kernel_rfl) ?_
           dsimp only [List.take_succ_cons, List.take_zero]
           repeat (first
             | gi_big_quiet_step (fail)
             | (refine wpQuietIn_step (fun _ _ _ _ => trivial) (fun K hK => ?_)
                go_simp
                refine hK _ ?_
                clear hK K))
           refine wpQuietIn_nil ?_
           intro _ hw'
           obtain ⟨nq, hw''⟩ := hw'
           subst hw'')
          obtain ⟨W7, hW7⟩ : ∃ X, W5.drewN nq = X := ⟨_, rfl⟩
          have hB7 : Below W5.heap.size W5 W7 := by rw [← hW7]; exact below_drewN (Below.refl _ _) nq
          rw [hW7]
          have hsm7 := HSM.out W7 hB7
          clear hW7
          refine wpAnyIn_ready (rs := [21]) (by kernel_rfl) (by simp) ?_
          refine AllReadyIn.cons rfl (fun K hK => ?_) AllReadyIn.nil
          go_simp
          refine ⟨trivial, ((callsIn_wide.2 hsm7).inRound _).mono ?_⟩
          rintro e6 W6 ⟨B, df6, rfl, kb6, hF6, hR6⟩
          dsimp only
          refine hK _ _ ?_
          clear hK K
          refine wpAnyIn_ready (rs := [22]) (by kernel_rfl) (by simp) ?_
          refine AllReadyIn.cons rfl (fun K hK => ?_) AllReadyIn.nil
          go_simp
          refine hK _ _ ?_
          clear hK K
          refine wpAnyIn_done (by kernel_rfl) ?_ _
          have hF36 : Frm (fun j => j = y ∨ j = rb) W3 W6 := (HF5.out.trans (Frm.of_below (p := fun _ => False) hB7) (fun _ _ h => h.elim)).trans hF6 (fun j _ e => .inr e)
          have ky6 := (HKR5.out.2.below hB7).frm hF6 (by omega)
          have HKY := Lib.hid (And.intro kb6 ky6)
          have HF36 := Lib.hid hF36
          have hs6 := hF36.size
          have hy6 := ky6.lt
          have hX6 : SaX ⟨rA, rB, rff, ren⟩ ⟨qA, qB, qf, qe⟩ D (mkL ⟨qA, qB, qf, qe⟩ F1) dfk B df6 := saX_of hR6 HIT.out.2.2.1.1 HIT.out.2.2.2.1.1
          have HX6 := Lib.hid hX6
          have kzc := HB3.out.2.2.2.2.2.frm hF36 (by omega)
          have kt6 := HB3.out.2.2.1.frm hF36 (by omega)
          have ko6 := (HB3.out.2.2.2.1.frm hF36 (by omega)).cell 0
          have kb26 := (HB3.out.1.frm hF36 (by omega)).cell 0
          clear x6 x7 x8 xz1 xz4 xz5 xz6 xz7 xb2 c1 c4 c5 c6 c7 f7 hX6 hR6 hF6 hB7 hsm7
          have x7 : W6.cell? ⟨y, 0, none⟩ = some (.int .i64 (k : Int)) := ky6.cell 0
          have f7 : W6.frozen? ⟨y, 0, none⟩ = false := ky6.frozen 0
          cases B
          · clear kzc kt6 ko6 kb26 ky6 hF36 kb6
            gi_wp2_with fail
            have kyk := HKY.out.2.set 0 (.int .i64 ((k : Int) + 1))
            have krk := HKY.out.1.other 0 (.int .i64 ((k : Int) + 1)) (b' := y) (by omega)
            have hFN : Frm (fun j => j = y ∨ j = rb) W3 (W6.setCell ⟨y, 0, none⟩ (.int .i64 ((k : Int) + 1))) := Frm.setCell (p := fun j => j = y ∨ j = rb) HF36.out 0 (.inl (.inl rfl)) _
            obtain ⟨WN, hWN⟩ : ∃ X, W6.setCell ⟨y, 0, none⟩ (.int .i64 ((k : Int) + 1)) = X := ⟨_, rfl⟩
            rw [hWN] at kyk krk hFN ⊢
            clear hWN
            have kyn : Blk WN y #[.int .i64 ((k + 1 : Nat) : Int)] 3 := by
              rw [show ((k + 1 : Nat) : Int) = (k : Int) + 1 from by omega]
              exact kyk
            refine ⟨?_, ?measure1⟩
            (repeat apply Exists.intro)
            refine ⟨?rel1, by first | (rw [HBZ.out, hoi]; done) | (rw [HBZ.out, hoi]; rfl) | (rw [hoi]; rfl)⟩
            case rel1 =>
              exact ⟨k + 1, df6, by omega, by omega, kyn, krk, fun n' df' B' h => HSC.out n' df' B' (Sc.diff HIT.out.1 (by rw [← hQ]; exact heq) (by rw [← hQ]; exact HX6.out) h), hFN⟩
            case measure1 =>
              rw [atC_of kyn, HMS.out]
              omega
          · have x6 : W6.cell? ⟨z + 4, 0, none⟩ = some (.slice oi ni ci) := ko6
            have xb2 : W6.cell? ⟨z, 0, none⟩ = some (.pointer (some ⟨rb, 0, none⟩)) := kb26
            have f5 : W6.frozen? ⟨z + 1 + 1 + 1, 0, none⟩ = false := kt6.frozen 0
            have x5 := kt6.cell 0
            have r3 : IntKind.i64.wrap ((ni : Int) - (k : Int)) = (ni : Int) - (k : Int) := IntWalk.i64_in _ (by omega)
            have HKZ := Lib.hid (And.intro kzc kt6)
            clear kzc kt6 ko6 kb26 ky6 hF36 kb6
            gi_wp2_with fail
            have k85 := HKZ.out.2.set 0 (.int .i64 ((ni : Int) - (k : Int)))
            have hF8 : Frm (fun j => j = z + 1 + 1 + 1) W6 (W6.setCell ⟨z + 1 + 1 + 1, 0, none⟩ (.int .i64 ((ni : Int) - (k : Int)))) := Frm.setCell (p := fun j => j = z + 1 + 1 + 1) (Frm.refl _ _) 0 (.inl rfl) _
            obtain ⟨W8, hW8⟩ : ∃ X, W6.setCell ⟨z + 1 + 1 + 1, 0, none⟩ (.int .i64 ((ni : Int) - (k : Int))) = X := ⟨_, rfl⟩
            rw [hW8] at k85 hF8 ⊢
            clear hW8 x6 xb2 x5 f5 x7 f7
            have kr8 := HKY.out.1.frm hF8 (by omega)
            have kz8 := HKZ.out.1.frm hF8 (by omega)
            have kz18 := (HB3.out.1.frm HF36.out (by omega)).frm hF8 (by omega)
            have xb2 : W8.cell? ⟨z, 0, none⟩ = some (.pointer (some ⟨rb, 0, none⟩)) := kz18.cell 0
            have xz1 : W8.cell? ⟨bz, 1, none⟩ = some (.int .i64 (tf : Int)) := kz8.cell 1
            have xz4 : W8.cell? ⟨bz, 4, none⟩ = some (.int .i64 (qA : Int)) := kz8.cell 4
            have xz5 : W8.cell? ⟨bz, 5, none⟩ = some (.bool qB) := kz8.cell 5
            have xz6 : W8.cell? ⟨bz, 6, none⟩ = some (.int .i64 (qf : Int)) := kz8.cell 6
            have xz7 : W8.cell? ⟨bz, 7, none⟩ = some (.int .i64 (qe : Int)) := kz8.cell 7
            have HR8 := Lib.hid kr8
            unfold rdCells at kr8
            have y2 := kr8.cell 2
            have y3 := kr8.cell 3
            have y4 := kr8.cell 4
            have y5 := kr8.cell 5
            have y6 := kr8.cell 6
            have g2 := kr8.frozen 2
            have g3 := kr8.frozen 3
            have g4 := kr8.frozen 4
            have g5 := kr8.frozen 5
            have g6 := kr8.frozen 6
            have HK8 := Lib.hid (And.intro k85 (And.intro hF8 kz18))
            have hrz1 : rb ≠ z := by omega
            have hrz2 : rb ≠ bz := by omega
            have hrz3 : z ≠ rb := by omega
            have hrz4 : bz ≠ rb := by omega
            clear k85 hF8 kr8 kz8 kz18 HKZ
            have hsz : ∀ (X : World) (o : Nat) (u : Value), (X.setCell ⟨rb, o, none⟩ u).cell? ⟨z, 0, none⟩ = X.cell? ⟨z, 0, none⟩ := fun X o u => World.cell?_setCell_other _ _ _ _ (by intro e; injection e; omega)
            have hsb : ∀ (X : World) (o o' : Nat) (u : Value), (X.setCell ⟨rb, o, none⟩ u).cell? ⟨bz, o', none⟩ = X.cell? ⟨bz, o', none⟩ := fun X o o' u => World.cell?_setCell_other _ _ _ _ (by intro e; injection e; omega)
            obtain ⟨WF, hWF⟩ : ∃ X, (((((W8.setCell ⟨rb, 2, none⟩ (.int .i64 (tf : Int))).setCell ⟨rb, 3, none⟩ (.int .i64 (qA : Int))).setCell ⟨rb, 4, none⟩ (.bool qB)).setCell ⟨rb, 5, none⟩ (.int .i64 (qf : Int))).setCell ⟨rb, 6, none⟩ (.int .i64 (qe : Int))).drew = X := ⟨_, rfl⟩
            have krF : Blk WF rb (rdCells b T tf ⟨qA, qB, qf, qe⟩ (.slice og1 ng1 cg1) df6) 97 := by
              have h1 := HR8.out
              unfold rdCells at h1
              rw [← hWF]
              exact (((((h1.set 2 (.int .i64 (tf : Int))).set 3 (.int .i64 (qA : Int))).set 4 (.bool qB)).set 5 (.int .i64 (qf : Int))).set 6 (.int .i64 (qe : Int))).below (Below.refl _ _).drew
            have hFF : Frm (fun j => j = rb) W8 WF := by
              rw [← hWF]
              exact (Frm.setCell (p := fun j => j = rb) (Frm.setCell (p := fun j => j = rb) (Frm.setCell (p := fun j => j = rb) (Frm.setCell (p := fun j => j = rb) (Frm.setCell (p := fun j => j = rb) (Frm.refl _ W8) 2 (.inl rfl) _) 3 (.inl rfl) _) 4 (.inl rfl) _) 5 (.inl rfl) _) 6 (.inl rfl) _).trans (Frm.of_below (p := fun _ => False) (Below.refl _ _).drew) (fun _ _ h => h.elim)
            have hF3F : Frm (fun j => (j = y ∨ j = rb) ∨ j = z + 1 + 1 + 1) W3 WF := ((HF36.out.mono (q := fun j => (j = y ∨ j = rb) ∨ j = z + 1 + 1 + 1) (fun j _ e => .inl e)).trans HK8.out.2.1 (fun j _ e => .inr e)).trans hFF (fun j _ e => .inl (.inr e))
            have hn3 : ∀ j, j ≠ y → j ≠ rb → j ≠ z + 1 + 1 + 1 → ¬ ((j = y ∨ j = rb) ∨ j = z + 1 + 1 + 1) := fun j h1 h2 h3 hh => by
              rcases hh with (e | e) | e
              · exact h1 e
              · exact h2 e
              · exact h3 e
            have hTT := HI.out.2.2.2.2.1
            have hsF := hF3F.size
            have hP : WF.heap[y + 3 + 1]? = W3.heap[y + 3 + 1]? ∧ WF.heap[y + 3]? = W3.heap[y + 3]? ∧ KpT (RzC z rb (y + 2)) TT W3 WF ∧ ∀ xs, RkX w z y rb b T a0 m0 F0 I D M n0 (.exit 0) (.exit 0) xs TT WF := by
              refine ⟨hF3F.block _ (by omega) (hn3 _ (by omega) (by omega) (by omega)), hF3F.block _ (by omega) (hn3 _ (by omega) (by omega) (by omega)), KpT.of_frm hF3F (fun j _ hj => ⟨fun ht => ?_, fun hc => ?_⟩), fun xs => ⟨rfl, its, nn, k, df1, df6, v, ⟨⟨tk, tf, te, top⟩, ⟨qA, qB, qf, qe⟩⟩, F1, og1, ng1, cg1, HB3.out.1.frm hF3F (hn3 _ (by omega) (by omega) (by omega)), HB3.out.2.1.frm hF3F (hn3 _ (by omega) (by omega) (by omega)), ?_, fun g hg => (HI.out.2.1 g hg).2, ?_, krF, ?_, HS.out.1.rd.ln, HS.out.1.rd.cap, fun g hg => ⟨HS.out.1.rd.db g hg, fun h => hTT g (HS.out.2.2.1 g hg h)⟩, HIT.out.2.2.2.1.2, HS.out.2.2.2.2.2.2.2.2.1, HS.out.1.tk, ?_, ?_, ?_, by omega, ?_⟩⟩
              · have h5 := hTT j ht
                rcases hj with (e | e) | e <;> omega
              · rcases hj with (e | e) | e
                · rcases hc with q9 | q9 <;> omega
                · rcases hc with q9 | q9 <;> omega
                · rcases hc with q9 | q9 <;> omega
              · exact own_frm hF3F (own_frm HF3.out HI.out.1 (fun g hg e => by have := (HI.out.2.1 g hg).2; omega)) (fun g hg e => by have := (HI.out.2.1 g hg).2; rcases e with (e | e) | e <;> omega)
              · have h1 := HK8.out.1.frm hFF (by omega)
                rw [HV.out.its.len] at h1
                exact h1
              · have hgz : ∀ g, (Value.slice og1 ng1 cg1).ownBlock = some g → g < z ∨ y + 5 ≤ g := fun g hg => by
                  rcases Nat.lt_or_ge g z with h | h
                  · exact .inl h
                  · exact .inr (hTT g (HS.out.2.2.1 g hg h))
                exact (HS.out.1.rd.del.frm HF3.out (fun g hg e => by have := hgz g hg; omega)).frm hF3F (fun g hg e => by
                  have h1 := hgz g hg
                  have h2 := HS.out.1.rd.db g hg
                  rcases e with (e | e) | e <;> omega)
              · have h1 := HI.out.2.2.2.1
                rw [withX_map (F := F1) (fun j q hj => by
                  have hjl := (List.getElem?_eq_some_iff.1 hj).1
                  have h2 := HS.out.2.2.2.2.1 j q (by rw [List.getElem?_append_left hjl]; exact hj)
                  rw [aheads_last, List.getElem?_append_left (by have := HS.out.2.2.2.2.2.2.2.2.2; simp [aheads]; omega)] at h2
                  exact h2)] at h1
                exact h1
              · have h1 := HSC.out k df6 true
                rw [← hQ] at h1
                exact h1 (Sc.hit HIT.out.1 heq HX6.out)
              · have := (List.getElem?_eq_some_iff.1 HIT.out.1).1
                exact this
              · refine HW3F.out.trans hF3F (fun j hj e => ?_)
                rcases e with (e | e) | e
                · omega
                · exact e
                · omega
            have HP := Lib.hid hP
            have HWF := Lib.hid hWF
            clear hWF hP krF hFF hF3F hn3 hTT hsF HR8 HK8
            refine wpIn_at WF (fun a' => ?_) ?_
            · refine ‹∀ (a : Act) (w : World), _ → _› _ _ ?_
              refine wpIn_exit ?_
              exact And.intro HP.out.1 (And.intro HP.out.2.1 (And.intro HP.out.2.2.1 (HP.out.2.2.2 _)))
            refine round_held (S := (fun W => W.cell? ⟨z, 0, none⟩ = some (.pointer (some ⟨rb, 0, none⟩)) ∧ W.cell? ⟨bz, 1, none⟩ = some (.int .i64 (tf : Int)) ∧ W.cell? ⟨bz, 4, none⟩ = some (.int .i64 (qA : Int)) ∧ W.cell? ⟨bz, 5, none⟩ = some (.bool qB) ∧ W.cell? ⟨bz, 6, none⟩ = some (.int .i64 (qf : Int)) ∧ W.cell? ⟨bz, 7, none⟩ = some (.int .i64 (qe : Int)))) (by kernel_rfl) (by kernel_rfl) ?_ (fun hHeld => ?_)
            · (simp only [World.cell?_drew]; exact ⟨xb2, xz1, xz4, xz5, xz6, xz7⟩)
            refine wpAnyH_take (i := 0) (oi := { dst := some 80, op := Op.load 75 (Operand.tmp 2), type := 75, pos := "relex.go:120", after := #[], guard := none }) (v := ?vv0) rfl (by kernel_rfl) (by kernel_rfl) (by kernel_rfl) (fun _ _ _ h => h) (Or.inl ⟨by rfl, ?hy0⟩) (by assumption) ?more0
            case hy0 => ((intro w hSw; (try dsimp only at hSw); go_simp); try (with_reducible rfl))
            (try simp only [Act.put, List.setIfInBounds_toArray, List.set_cons_zero, List.set_cons_succ])
            refine wpAnyH_take (i := 1) (oi := { dst := some 81, op := Op.load 75 (Operand.tmp 2), type := 75, pos := "relex.go:120", after := #[{ on := 9, ground := Ground.gcOnly Departure.lateStores }], guard := none }) (v := ?vv1) rfl (by kernel_rfl) (by kernel_rfl) (by kernel_rfl) (fun _ _ _ h => h) (Or.inl ⟨by rfl, ?hy1⟩) (by assumption) ?more1
            case hy1 => ((intro w hSw; (try dsimp only at hSw); go_simp); try (with_reducible rfl))
            (try simp only [Act.put, List.setIfInBounds_toArray, List.set_cons_zero, List.set_cons_succ])
            refine wpAnyH_take (i := 2) (oi := { dst := some 82, op := Op.fieldAddr 82 (Operand.tmp 9) 0, type := 0, pos := "relex.go:120", after := #[], guard := none }) (v := ?vv2) rfl (by kernel_rfl) (by kernel_rfl) (by kernel_rfl) (fun _ _ _ h => h) (Or.inl ⟨by rfl, ?hy2⟩) (by assumption) ?more2
            case hy2 => ((intro w hSw; (try dsimp only at hSw); go_simp); try (with_reducible rfl))
            (try simp only [Act.put, List.setIfInBounds_toArray, List.set_cons_zero, List.set_cons_succ])
            refine wpAnyH_take (i := 3) (oi := { dst := some 83, op := Op.fieldAddr 44 (Operand.tmp 82) 1, type := 0, pos := "relex.go:120", after := #[{ on := 2, ground := Ground.data }], guard := none }) (v := ?vv3) rfl (by kernel_rfl) (by kernel_rfl) (by kernel_rfl) (fun _ _ _ h => h) (Or.inl ⟨by rfl, ?hy3⟩) (by assumption) ?more3
            case hy3 => ((intro w hSw; (try dsimp only at hSw); go_simp); try (with_reducible rfl))
            (try simp only [Act.put, List.setIfInBounds_toArray, List.set_cons_zero, List.set_cons_succ])
            refine wpAnyH_take (i := 4) (oi := { dst := some 84, op := Op.load 3 (Operand.tmp 83), type := 3, pos := "relex.go:120", after := #[{ on := 3, ground := Ground.data }], guard := none }) (v := ?vv4) rfl (by kernel_rfl) (by kernel_rfl) (by kernel_rfl) (fun _ _ _ h => h) (Or.inl ⟨by rfl, ?hy4⟩) (by assumption) ?more4
            case hy4 => ((intro w hSw; (try dsimp only at hSw); go_simp); try (with_reducible rfl))
            (try simp only [Act.put, List.setIfInBounds_toArray, List.set_cons_zero, List.set_cons_succ])
            refine wpAnyH_take (i := 5) (oi := { dst := some 85, op := Op.fieldAddr 82 (Operand.tmp 9) 1, type := 0, pos := "relex.go:120", after := #[{ on := 9, ground := Ground.gcOnly Departure.lateStores }], guard := none }) (v := ?vv5) rfl (by kernel_rfl) (by kernel_rfl) (by kernel_rfl) (fun _ _ _ h => h) (Or.inl ⟨by rfl, ?hy5⟩) (by assumption) ?more5
            case hy5 => ((intro w hSw; (try dsimp only at hSw); go_simp); try (with_reducible rfl))
            (try simp only [Act.put, List.setIfInBounds_toArray, List.set_cons_zero, List.set_cons_succ])
            refine wpAnyH_take (i := 6) (oi := { dst := some 86, op := Op.load 66 (Operand.tmp 85), type := 66, pos := "relex.go:120", after := #[{ on := 5, ground := Ground.data }, { on := 9, ground := Ground.gcOnly Departure.lateStores }], guard := none }) (v := ?vv6) rfl (by kernel_rfl) (by kernel_rfl) (by kernel_rfl) (fun _ _ _ h => h) (Or.inl ⟨by rfl, ?hy6⟩) (by assumption) ?more6
            case hy6 => ((intro w hSw; (try dsimp only at hSw); go_simp); try (with_reducible rfl))
            (try simp only [Act.put, List.setIfInBounds_toArray, List.set_cons_zero, List.set_cons_succ])
            refine wpAnyH_take (i := 7) (oi := { dst := some 87, op := Op.nilCheck (Operand.tmp 80), type := 0, pos := "relex.go:120", after := #[{ on := 0, ground := Ground.data }, { on := 0, ground := Ground.phase }, { on := 1, ground := Ground.textOnly Departure.lateStores }, { on := 2, ground := Ground.phase }, { on := 3, ground := Ground.phase }, { on := 4, ground := Ground.phase }, { on := 5, ground := Ground.textOnly Departure.lateStores }, { on := 6, ground := Ground.textOnly Departure.lateStores }], guard := none }) (v := ?vv7) rfl (by kernel_rfl) (by kernel_rfl) (by kernel_rfl) (fun _ _ _ h => h) (Or.inl ⟨by rfl, ?hy7⟩) (by assumption) ?more7
            case hy7 => ((intro w hSw; (try dsimp only at hSw); go_simp); try (with_reducible rfl))
            (try simp only [Act.put, List.setIfInBounds_toArray, List.set_cons_zero, List.set_cons_succ])
            refine wpAnyH_take (i := 8) (oi := { dst := some 88, op := Op.fieldAddr 97 (Operand.tmp 87) 2, type := 0, pos := "relex.go:120", after := #[{ on := 7, ground := Ground.data }, { on := 0, ground := Ground.phase }, { on := 1, ground := Ground.textOnly Departure.lateStores }, { on := 2, ground := Ground.phase }, { on := 3, ground := Ground.phase }, { on := 4, ground := Ground.phase }, { on := 5, ground := Ground.textOnly Departure.lateStores }, { on := 6, ground := Ground.textOnly Departure.lateStores }], guard := none }) (v := ?vv8) rfl (by kernel_rfl) (by kernel_rfl) (by kernel_rfl) (fun _ _ _ h => h) (Or.inl ⟨by rfl, ?hy8⟩) (by assumption) ?more8
            case hy8 => ((intro w hSw; (try dsimp only at hSw); go_simp); try (with_reducible rfl))
            (try simp only [Act.put, List.setIfInBounds_toArray, List.set_cons_zero, List.set_cons_succ])
            refine wpAnyH_ready (rs := [9]) (by kernel_rfl) (by simp) ?_
            refine AllReadyH.cons (o := { dst := none, op := Op.store 3 (Operand.tmp 88) (Operand.tmp 84), type := 0, pos := "relex.go:120", after := #[{ on := 8, ground := Ground.data }, { on := 4, ground := Ground.data }, { on := 0, ground := Ground.phase }, { on := 1, ground := Ground.textOnly Departure.lateStores }, { on := 2, ground := Ground.phase }, { on := 3, ground := Ground.phase }, { on := 4, ground := Ground.phase }, { on := 5, ground := Ground.textOnly Departure.lateStores }, { on := 6, ground := Ground.textOnly Departure.lateStores }], guard := none }) rfl (fun K hK => ?_) AllReadyH.nil
            go_simp
            refine hK.out _ _ ?_ (fun hHeld => ?_)
            · (try dsimp only); (simp only [World.cell?_drew, hsz, hsb]; exact ⟨xb2, xz1, xz4, xz5, xz6, xz7⟩)
            clear hK K
            (try simp only [Act.put, List.setIfInBounds_toArray, List.set_cons_zero, List.set_cons_succ])
            refine wpAnyH_take (i := 10) (oi := { dst := some 89, op := Op.nilCheck (Operand.tmp 81), type := 0, pos := "relex.go:120", after := #[{ on := 1, ground := Ground.data }, { on := 0, ground := Ground.phase }, { on := 1, ground := Ground.phase }, { on := 2, ground := Ground.phase }, { on := 3, ground := Ground.phase }, { on := 4, ground := Ground.phase }, { on := 5, ground := Ground.phase }, { on := 6, ground := Ground.phase }, { on := 7, ground := Ground.phase }, { on := 8, ground := Ground.phase }, { on := 9, ground := Ground.phase }], guard := none }) (v := ?vv9) rfl (by kernel_rfl) (by kernel_rfl) (by kernel_rfl) (fun _ _ _ h => h) (Or.inl ⟨by rfl, ?hy9⟩) (by assumption) ?more9
            case hy9 => ((intro w hSw; (try dsimp only at hSw); go_simp); try (with_reducible rfl))
            (try simp only [Act.put, List.setIfInBounds_toArray, List.set_cons_zero, List.set_cons_succ])
            refine wpAnyH_take (i := 11) (oi := { dst := some 90, op := Op.fieldAddr 97 (Operand.tmp 89) 3, type := 0, pos := "relex.go:120", after := #[{ on := 10, ground := Ground.data }, { on := 0, ground := Ground.phase }, { on := 1, ground := Ground.phase }, { on := 2, ground := Ground.phase }, { on := 3, ground := Ground.phase }, { on := 4, ground := Ground.phase }, { on := 5, ground := Ground.phase }, { on := 6, ground := Ground.phase }, { on := 7, ground := Ground.phase }, { on := 8, ground := Ground.phase }, { on := 9, ground := Ground.phase }], guard := none }) (v := ?vv10) rfl (by kernel_rfl) (by kernel_rfl) (by kernel_rfl) (fun _ _ _ h => h) (Or.inl ⟨by rfl, ?hy10⟩) (by assumption) ?more10
            case hy10 => ((intro w hSw; (try dsimp only at hSw); go_simp); try (with_reducible rfl))
            (try simp only [Act.put, List.setIfInBounds_toArray, List.set_cons_zero, List.set_cons_succ])
            refine wpAnyH_ready (rs := [12]) (by kernel_rfl) (by simp) ?_
            refine AllReadyH.cons (o := { dst := none, op := Op.store 66 (Operand.tmp 90) (Operand.tmp 86), type := 0, pos := "relex.go:120", after := #[{ on := 11, ground := Ground.data }, { on := 6, ground := Ground.data }, { on := 9, ground := Ground.chain }, { on := 0, ground := Ground.phase }, { on := 1, ground := Ground.phase }, { on := 2, ground := Ground.phase }, { on := 3, ground := Ground.phase }, { on := 4, ground := Ground.phase }, { on := 5, ground := Ground.phase }, { on := 6, ground := Ground.phase }, { on := 7, ground := Ground.phase }, { on := 8, ground := Ground.phase }, { on := 9, ground := Ground.phase }], guard := none }) rfl (fun K hK => ?_) AllReadyH.nil
            go_simp
            refine hK.out _ _ ?_ (fun hHeld => ?_)
            · (try dsimp only); (simp only [World.cell?_drew, hsz, hsb]; exact ⟨xb2, xz1, xz4, xz5, xz6, xz7⟩)
            clear hK K
            (try simp only [Act.put, List.setIfInBounds_toArray, List.set_cons_zero, List.set_cons_succ])
            refine wpAnyH_done (by kernel_rfl) ?_ _
            refine onlyN.normal ?_
            all_goals exact ⟨rfl, HWF.out⟩
        · have t3 : decide ((rf : Int) + M = (tf : Int)) = false := by simp; omega
          have t3' : ((rf : Int) + M == (tf : Int)) = false := by simp; omega
          (refine quiet_lit (by kernel_rfl) (by kernel_rfl) (by kernel_rfl) ?_
           repeat (first
             | gi_big_quiet_step (fail)
             | (refine wpQuietIn_step (fun _ _ _ _ => trivial) (fun K hK => ?_)
                go_simp
                refine hK _ ?_
                clear hK K))
           refine wpQuietIn_nil ?_
           intro _ hw'
           obtain ⟨nq, hw''⟩ := hw'
           subst hw'')
          gi_wp2_with fail
          have hd5 : Below W5.heap.size W5 (W5.drewN nq) := below_drewN (Below.refl _ _) nq
          have kyk := (HKR5.out.2.below hd5).set 0 (.int .i64 ((k : Int) + 1))
          have krk := (HKR5.out.1.below hd5).other 0 (.int .i64 ((k : Int) + 1)) (b' := y) (by omega)
          have hFN : Frm (fun j => j = y ∨ j = rb) W3 ((W5.drewN nq).setCell ⟨y, 0, none⟩ (.int .i64 ((k : Int) + 1))) := Frm.setCell (p := fun j => j = y ∨ j = rb) (HF5.out.trans (Frm.of_below (p := fun _ => False) hd5) (fun _ _ h => h.elim)) 0 (.inl (.inl rfl)) _
          obtain ⟨WN, hWN⟩ : ∃ X, (W5.drewN nq).setCell ⟨y, 0, none⟩ (.int .i64 ((k : Int) + 1)) = X := ⟨_, rfl⟩
          rw [hWN] at kyk krk hFN ⊢
          clear hWN
          have kyn : Blk WN y #[.int .i64 ((k + 1 : Nat) : Int)] 3 := by
            rw [show ((k + 1 : Nat) : Int) = (k : Int) + 1 from by omega]
            exact kyk
          refine ⟨?_, ?measure2⟩
          (repeat apply Exists.intro)
          refine ⟨?rel2, by first | (rw [HBZ.out, hoi]; done) | (rw [HBZ.out, hoi]; rfl) | (rw [hoi]; rfl)⟩
          case rel2 =>
            exact ⟨k + 1, dfk, by omega, by omega, kyn, krk, fun n' df' B' h => HSC.out n' df' B' (Sc.skip HIT.out.1 (by rw [← hQ]; dsimp only; omega) h), hFN⟩
          case measure2 =>
            rw [atC_of kyn, HMS.out]
            omega
      · have HSTP : Hid (Sc I D M Q (mkL Q.2 F1) nn df1 k dfk false) := Lib.hid (HSC.out _ _ _ (Sc.stop (fun r hr => by
          by_cases g : (Q.1.frm : Int) < (r.1.frm : Int) + M
          · exact g
          · exact absurd ⟨r, hr, by rw [← hQ] at g; dsimp only at g; omega⟩ hst)))
        obtain ⟨HIo, HBo⟩ : True ∧ True := ⟨trivial, trivial⟩
        have x4 : wr.cell? ⟨z + 1 + 1, 0, none⟩ = some v := (HB3.out.2.1.frm HFR.out (by omega)).cell 0
        have f4 : wr.frozen? ⟨z + 1 + 1, 0, none⟩ = false := (HB3.out.2.1.frm HFR.out (by omega)).frozen 0
        by_cases hkl : k < ni
        · obtain ⟨r, hr⟩ : ∃ r, I[k]? = some r := ⟨I[k]'(by have := HV.out.its.len; omega), List.getElem?_eq_getElem _⟩
          have hrm : ¬ (r.1.frm : Int) + M ≤ (tf : Int) := fun h => hst ⟨r, hr, h⟩
          obtain ⟨g1, o1, hoi, hg1, hit⟩ := HWR.out.its.cells k r hr
          obtain ⟨⟨rk, rf, re, rop⟩, ⟨rA, rB, rff, ren⟩⟩ := r
          have c1 := hit.c1
          dsimp only at hrm c1
          have hrf : rf ≤ 900 := by
            have h1 := (Pth.sum HV.out.path k _ hr).2.1
            have h2 := (Pth.sum HV.out.path k _ hr).2.2.1
            have h9 := HV.out.sz
            dsimp only at h1 h2
            omega
          have r1 : IntKind.i64.wrap ((rf : Int) + M) = (rf : Int) + M := IntWalk.i64_in _ (by omega)
          rw [hoi] at x6
          have t1 : (k : Int) < (ni : Int) := by omega
          have t1' : decide ((k : Int) < (ni : Int)) = true := by simp; omega
          have t2' : decide ((rf : Int) + M ≤ (tf : Int)) = false := by simp; omega
          clear hit hr HWR
          gi_wp2_with fail
          (refine quiet_lit (by kernel_rfl) (by kernel_rfl) (by kernel_rfl) ?_
           repeat (first
             | gi_big_quiet_step (fail)
             | (refine wpQuietIn_step (fun _ _ _ _ => trivial) (fun K hK => ?_)
                go_simp
                refine hK _ ?_
                clear hK K))
           refine wpQuietIn_nil ?_
           intro _ hw'
           obtain ⟨nq, hw''⟩ := hw'
           subst hw'')
          clear x4 f4 x6 x7 x8 xz c1 t1' t2' r1
          obtain ⟨W5, hW5⟩ : ∃ X, wr.drewN nq = X := ⟨_, rfl⟩
          have hB5 : Below wr.heap.size wr W5 := by rw [← hW5]; exact below_drewN (Below.refl _ _) nq
          rw [hW5]
          have hF5 : Frm (fun j => j = y ∨ j = rb) W3 W5 := HFR.out.trans (Frm.of_below (p := fun _ => False) hB5) (fun _ _ h => h.elim)
          have kr5 := HKK.out.2.below hB5
          have ky5 := HKK.out.1.below hB5
          have kz5 := HB3.out.2.2.2.2.2.frm hF5 (by omega)
          have kv5 := HB3.out.2.1.frm hF5 (by omega)
          have ho5 : W5.ownsRow z 82 8 v its.length (cellsI its) := own_frm hF5 (own_frm HF3.out HI.out.1 (fun g hg e => by have := (HI.out.2.1 g hg).2; omega)) (fun g hg e => by have := (HI.out.2.1 g hg).2; rcases e with e | e <;> omega)
          have hs5 := hF5.size
          have HF5 := Lib.hid hF5
          have HO5 := Lib.hid ho5
          have HKR5 := Lib.hid (And.intro kr5 (And.intro ky5 kv5))
          have xz0 := kz5.cell 0
          have xz1 := kz5.cell 1
          have xz2 := kz5.cell 2
          have xz3 := kz5.cell 3
          have xz4 := kz5.cell 4
          have xz5 := kz5.cell 5
          have xz6 := kz5.cell 6
          have xz7 := kz5.cell 7
          have x4 := kv5.cell 0
          have HKQ := Lib.hid (Blk.new W5 #[.int .i64 (tk : Int), .int .i64 (tf : Int), .int .i64 (te : Int), .bool top, .int .i64 (qA : Int), .bool qB, .int .i64 (qf : Int), .int .i64 (qe : Int)] 82)
          have HVV := Lib.hid HI.out.2.1
          obtain ⟨zp, hzp⟩ : ∃ zp, its.length = zp := ⟨_, rfl⟩
          have HZP := Lib.hid hzp
          rw [hzp] at HO5 hitl
          have hzs : z ≤ W5.heap.size := by omega
          have HKV := Lib.hid kv5
          clear hW5 hB5 hF5 kr5 ky5 kz5 kv5 ho5 hzp
          gi_wp2_with (gi_at_builtin; refine wplIn_apg rfl _ _ 64 82 8 64 _ rfl Tryz.underlying64 infoIt rfl (by omega) (by omega) z v zp (cellsI its) rfl (own_alloc HO5.out _) _ 1 (cellI ⟨⟨tk, tf, te, top⟩, ⟨qA, qB, qf, qe⟩⟩) rfl (src_it (x := ⟨⟨tk, tf, te, top⟩, ⟨qA, qB, qf, qe⟩⟩) HKQ.out) rfl (cellI_one _) (by omega) (by rw [World.size_alloc]; omega) (zp + 1) rfl ?_; intro oa8 c8 W8 hown8 hgr8 hg8; have b8 := (HKV.out.alloc (.cells #[.int .i64 (tk : Int), .int .i64 (tf : Int), .int .i64 (te : Int), .bool top, .int .i64 (qA : Int), .bool qB, .int .i64 (qf : Int), .int .i64 (qe : Int)] 82)).grown hgr8 (fun e => by have := (HVV.out _ e.symm).2; omega); have ef8 := b8.frozen 0; have e8 := b8.cell 0)
          have hF8 : Frm (fun j => v.ownBlock = some j ∨ j = z + 1 + 1) W5 W8 := ((Frm.refl (fun j => v.ownBlock = some j ∨ j = z + 1 + 1) W5).alloc _).grown hgr8 (fun k hk => .inl (.inl hk))
          have hFs : Frm (fun j => j = z + 1 + 1) W8 (W8.setCell ⟨z + 1 + 1, 0, none⟩ (.slice oa8 (zp + 1) c8)) := Frm.setCell (p := fun j => j = z + 1 + 1) (Frm.refl _ W8) 0 (.inl rfl) _
          have b9 := b8.set 0 (.slice oa8 (zp + 1) c8)
          obtain ⟨Wf, hWf⟩ : ∃ Y, W8.setCell ⟨z + 1 + 1, 0, none⟩ (.slice oa8 (zp + 1) c8) = Y := ⟨_, rfl⟩
          rw [hWf] at hFs b9 ⊢
          clear hWf
          have hF58 := hF8.trans hFs (fun j _ e => .inr e)
          have hF9 : Frm (fun j => (v.ownBlock = some j ∨ j = z + 1 + 1) ∨ (j = y ∨ j = rb)) W3 Wf := (HF5.out.mono (q := fun j => (v.ownBlock = some j ∨ j = z + 1 + 1) ∨ (j = y ∨ j = rb)) (fun j _ e => .inr e)).trans hF58 (fun j _ e => .inl e)
          have hn58 : ∀ j, j < y + 5 → j ≠ z + 1 + 1 → ¬ (v.ownBlock = some j ∨ j = z + 1 + 1) := fun j h1 h2 hh => by
            rcases hh with e | e
            · have := (HVV.out j e).2; omega
            · exact h2 e
          have hno : ∀ j, j < y + 5 → j ≠ z + 1 + 1 → j ≠ y → j ≠ rb → ¬ ((v.ownBlock = some j ∨ j = z + 1 + 1) ∨ (j = y ∨ j = rb)) := fun j h1 h2 h3 h4 hh => by
            rcases hh with e | e | e
            · exact hn58 j h1 h2 e
            · exact h3 e
            · exact h4 e
          have krf := HKR5.out.1.frm hF58 (hn58 _ (by omega) (by omega))
          have kyf := HKR5.out.2.1.frm hF58 (hn58 _ (by omega) (by omega))
          have hTT := HI.out.2.2.2.2.1
          have hs9 := hF9.size
          have hs8 := hF58.size
          refine ⟨hF9.block _ (by omega) (hno _ (by omega) (by omega) (by omega) (by omega)), hF9.block _ (by omega) (hno _ (by omega) (by omega) (by omega) (by omega)), KpT.of_frm hF9 (fun j _ hj => ⟨fun ht => ?_, fun hc => ?_⟩), fun b' T' a' m' pv' df' hb => ⟨dfk, ?_⟩, ⟨its ++ [⟨⟨tk, tf, te, top⟩, ⟨qA, qB, qf, qe⟩⟩], k, dfk, .slice oa8 (zp + 1) c8, HB3.out.1.frm hF9 (hno _ (by omega) (by omega) (by omega) (by omega)), b9, ?_, fun g hg => ?_, HB3.out.2.2.1.frm hF9 (hno _ (by omega) (by omega) (by omega) (by omega)), HB3.out.2.2.2.1.frm hF9 (hno _ (by omega) (by omega) (by omega) (by omega)), kyf, HB3.out.2.2.2.2.1.frm hF9 (hno _ (by omega) (by omega) (by omega) (by omega)), ?_, ?_, ?_, hTT, by omega, ?_, hkn⟩⟩
          · have h5 := hTT j ht
            rcases hj with (e | e) | e | e
            · exact (HVV.out j e).1 ht
            · omega
            · omega
            · omega
          · rcases hj with (e | e) | e | e
            · have h5 := (HVV.out j e).2
              rcases hc with q9 | q9 <;> omega
            · rcases hc with q9 | q9 <;> omega
            · rcases hc with q9 | q9 <;> omega
            · rcases hc with q9 | q9 <;> omega
          · have k0 := HS.out.1.rd.blk.frm HF3.out (by omega)
            exact rdCells_re (blk_eq k0 hb) dfk ▸ krf
          · rw [List.length_append, HZP.out, cellsI_append]
            have := own_frm hFs hown8 (fun g hg e => by
              rcases hg8 with e2 | e2
              · have := (HVV.out g (e2.symm.trans hg)).2; omega
              · rw [World.size_alloc] at e2
                rw [e2] at hg
                injection hg with hg
                omega)
            simpa [cellsI] using this
          · rcases hg8 with e2 | e2
            · exact HVV.out g (e2.symm.trans hg)
            · rw [World.size_alloc] at e2
              rw [e2] at hg
              injection hg with hg
              refine ⟨fun ht => ?_, by omega⟩
              have := hTb g ht
              omega
          · unfold rdCells at krf
            exact krf.cell 8
          · rw [List.map_append, List.map_append, HI.out.2.2.1]
            rfl
          · have h9 := HSTP.out
            rw [← hQ] at h9
            rw [withX_snoc HS.out.2.2.2.2.2.2.2.2.2 _ _ _ HS.out.2.2.2.2.2.1]
            exact Rr.snoc HI.out.2.2.2.1 h9
          · refine HW3F.out.trans hF9 (fun j hj e => ?_)
            rcases e with (e | e) | e | e
            · have := (HVV.out j e).2; omega
            · omega
            · omega
            · exact e
        · have t1 : ¬ (k : Int) < (ni : Int) := by omega
          have t1' : decide ((k : Int) < (ni : Int)) = false := by simp; omega
          clear HWR
          gi_wp2_with fail
          (refine quiet_lit (by kernel_rfl) (by kernel_rfl) (by kernel_rfl) ?_
           repeat (first
             | gi_big_quiet_step (fail)
             | (refine wpQuietIn_step (fun _ _ _ _ => trivial) (fun K hK => ?_)
                go_simp
                refine hK _ ?_
                clear hK K))
           refine wpQuietIn_nil ?_
           intro _ hw'
           obtain ⟨nq, hw''⟩ := hw'
           subst hw'')
          clear x4 f4 x6 x7 x8 xz t1'
          obtain ⟨W5, hW5⟩ : ∃ X, wr.drewN nq = X := ⟨_, rfl⟩
          have hB5 : Below wr.heap.size wr W5 := by rw [← hW5]; exact below_drewN (Below.refl _ _) nq
          rw [hW5]
          have hF5 : Frm (fun j => j = y ∨ j = rb) W3 W5 := HFR.out.trans (Frm.of_below (p := fun _ => False) hB5) (fun _ _ h => h.elim)
          have kr5 := HKK.out.2.below hB5
          have ky5 := HKK.out.1.below hB5
          have kz5 := HB3.out.2.2.2.2.2.frm hF5 (by omega)
          have kv5 := HB3.out.2.1.frm hF5 (by omega)
          have ho5 : W5.ownsRow z 82 8 v its.length (cellsI its) := own_frm hF5 (own_frm HF3.out HI.out.1 (fun g hg e => by have := (HI.out.2.1 g hg).2; omega)) (fun g hg e => by have := (HI.out.2.1 g hg).2; rcases e with e | e <;> omega)
          have hs5 := hF5.size
          have HF5 := Lib.hid hF5
          have HO5 := Lib.hid ho5
          have HKR5 := Lib.hid (And.intro kr5 (And.intro ky5 kv5))
          have xz0 := kz5.cell 0
          have xz1 := kz5.cell 1
          have xz2 := kz5.cell 2
          have xz3 := kz5.cell 3
          have xz4 := kz5.cell 4
          have xz5 := kz5.cell 5
          have xz6 := kz5.cell 6
          have xz7 := kz5.cell 7
          have x4 := kv5.cell 0
          have HKQ := Lib.hid (Blk.new W5 #[.int .i64 (tk : Int), .int .i64 (tf : Int), .int .i64 (te : Int), .bool top, .int .i64 (qA : Int), .bool qB, .int .i64 (qf : Int), .int .i64 (qe : Int)] 82)
          have HVV := Lib.hid HI.out.2.1
          obtain ⟨zp, hzp⟩ : ∃ zp, its.length = zp := ⟨_, rfl⟩
          have HZP := Lib.hid hzp
          rw [hzp] at HO5 hitl
          have hzs : z ≤ W5.heap.size := by omega
          have HKV := Lib.hid kv5
          clear hW5 hB5 hF5 kr5 ky5 kz5 kv5 ho5 hzp
          gi_wp2_with (gi_at_builtin; refine wplIn_apg rfl _ _ 64 82 8 64 _ rfl Tryz.underlying64 infoIt rfl (by omega) (by omega) z v zp (cellsI its) rfl (own_alloc HO5.out _) _ 1 (cellI ⟨⟨tk, tf, te, top⟩, ⟨qA, qB, qf, qe⟩⟩) rfl (src_it (x := ⟨⟨tk, tf, te, top⟩, ⟨qA, qB, qf, qe⟩⟩) HKQ.out) rfl (cellI_one _) (by omega) (by rw [World.size_alloc]; omega) (zp + 1) rfl ?_; intro oa8 c8 W8 hown8 hgr8 hg8; have b8 := (HKV.out.alloc (.cells #[.int .i64 (tk : Int), .int .i64 (tf : Int), .int .i64 (te : Int), .bool top, .int .i64 (qA : Int), .bool qB, .int .i64 (qf : Int), .int .i64 (qe : Int)] 82)).grown hgr8 (fun e => by have := (HVV.out _ e.symm).2; omega); have ef8 := b8.frozen 0; have e8 := b8.cell 0)
          have hF8 : Frm (fun j => v.ownBlock = some j ∨ j = z + 1 + 1) W5 W8 := ((Frm.refl (fun j => v.ownBlock = some j ∨ j = z + 1 + 1) W5).alloc _).grown hgr8 (fun k hk => .inl (.inl hk))
          have hFs : Frm (fun j => j = z + 1 + 1) W8 (W8.setCell ⟨z + 1 + 1, 0, none⟩ (.slice oa8 (zp + 1) c8)) := Frm.setCell (p := fun j => j = z + 1 + 1) (Frm.refl _ W8) 0 (.inl rfl) _
          have b9 := b8.set 0 (.slice oa8 (zp + 1) c8)
          obtain ⟨Wf, hWf⟩ : ∃ Y, W8.setCell ⟨z + 1 + 1, 0, none⟩ (.slice oa8 (zp + 1) c8) = Y := ⟨_, rfl⟩
          rw [hWf] at hFs b9 ⊢
          clear hWf
          have hF58 := hF8.trans hFs (fun j _ e => .inr e)
          have hF9 : Frm (fun j => (v.ownBlock = some j ∨ j = z + 1 + 1) ∨ (j = y ∨ j = rb)) W3 Wf := (HF5.out.mono (q := fun j => (v.ownBlock = some j ∨ j = z + 1 + 1) ∨ (j = y ∨ j = rb)) (fun j _ e => .inr e)).trans hF58 (fun j _ e => .inl e)
          have hn58 : ∀ j, j < y + 5 → j ≠ z + 1 + 1 → ¬ (v.ownBlock = some j ∨ j = z + 1 + 1) := fun j h1 h2 hh => by
            rcases hh with e | e
            · have := (HVV.out j e).2; omega
            · exact h2 e
          have hno : ∀ j, j < y + 5 → j ≠ z + 1 + 1 → j ≠ y → j ≠ rb → ¬ ((v.ownBlock = some j ∨ j = z + 1 + 1) ∨ (j = y ∨ j = rb)) := fun j h1 h2 h3 h4 hh => by
            rcases hh with e | e | e
            · exact hn58 j h1 h2 e
            · exact h3 e
            · exact h4 e
          have krf := HKR5.out.1.frm hF58 (hn58 _ (by omega) (by omega))
          have kyf := HKR5.out.2.1.frm hF58 (hn58 _ (by omega) (by omega))
          have hTT := HI.out.2.2.2.2.1
          have hs9 := hF9.size
          have hs8 := hF58.size
          refine ⟨hF9.block _ (by omega) (hno _ (by omega) (by omega) (by omega) (by omega)), hF9.block _ (by omega) (hno _ (by omega) (by omega) (by omega) (by omega)), KpT.of_frm hF9 (fun j _ hj => ⟨fun ht => ?_, fun hc => ?_⟩), fun b' T' a' m' pv' df' hb => ⟨dfk, ?_⟩, ⟨its ++ [⟨⟨tk, tf, te, top⟩, ⟨qA, qB, qf, qe⟩⟩], k, dfk, .slice oa8 (zp + 1) c8, HB3.out.1.frm hF9 (hno _ (by omega) (by omega) (by omega) (by omega)), b9, ?_, fun g hg => ?_, HB3.out.2.2.1.frm hF9 (hno _ (by omega) (by omega) (by omega) (by omega)), HB3.out.2.2.2.1.frm hF9 (hno _ (by omega) (by omega) (by omega) (by omega)), kyf, HB3.out.2.2.2.2.1.frm hF9 (hno _ (by omega) (by omega) (by omega) (by omega)), ?_, ?_, ?_, hTT, by omega, ?_, hkn⟩⟩
          · have h5 := hTT j ht
            rcases hj with (e | e) | e | e
            · exact (HVV.out j e).1 ht
            · omega
            · omega
            · omega
          · rcases hj with (e | e) | e | e
            · have h5 := (HVV.out j e).2
              rcases hc with q9 | q9 <;> omega
            · rcases hc with q9 | q9 <;> omega
            · rcases hc with q9 | q9 <;> omega
            · rcases hc with q9 | q9 <;> omega
          · have k0 := HS.out.1.rd.blk.frm HF3.out (by omega)
            exact rdCells_re (blk_eq k0 hb) dfk ▸ krf
          · rw [List.length_append, HZP.out, cellsI_append]
            have := own_frm hFs hown8 (fun g hg e => by
              rcases hg8 with e2 | e2
              · have := (HVV.out g (e2.symm.trans hg)).2; omega
              · rw [World.size_alloc] at e2
                rw [e2] at hg
                injection hg with hg
                omega)
            simpa [cellsI] using this
          · rcases hg8 with e2 | e2
            · exact HVV.out g (e2.symm.trans hg)
            · rw [World.size_alloc] at e2
              rw [e2] at hg
              injection hg with hg
              refine ⟨fun ht => ?_, by omega⟩
              have := hTb g ht
              omega
          · unfold rdCells at krf
            exact krf.cell 8
          · rw [List.map_append, List.map_append, HI.out.2.2.1]
            rfl
          · have h9 := HSTP.out
            rw [← hQ] at h9
            rw [withX_snoc HS.out.2.2.2.2.2.2.2.2.2 _ _ _ HS.out.2.2.2.2.2.1]
            exact Rr.snoc HI.out.2.2.2.1 h9
          · refine HW3F.out.trans hF9 (fun j hj e => ?_)
            rcases e with (e | e) | e | e
            · have := (HVV.out j e).2; omega
            · omega
            · omega
            · exact e
end
end Go.Proofs.YtdjcidackkogjaaGreatDoor

/- What Pieces of layer 8 (literal) returns: the pieces of a text, in a row. Condition: texts of at most 60,000 bytes. -/
import Derived.Test.YtiklnlkakhghdaaLtV
import Derived.Test.YtiklnlkakhghdaaLtU
import Derived.OwnWalkIn
namespace Go.Proofs.Ytiklnlkakhghdaa
open Go.RowKit Go.Shelf
set_option linter.unusedVariables false
attribute [local go_sem] Oper.semAt_some

set_option maxHeartbeats 400000 in
theorem clone_any (s : ByteArray) (w : World) (hlim : s.size ≤ 281474976710656) :
    Calls Try.prog 18 #[.string s] w fun e w' => e = .returned (.string s) ∧ Below w.heap.size w w' := by
  go_enter Try.func18, Try.ntmps18
  go_wp2_with (go_at_call 34; refine (Try.stringslite_Clone s _ hlim).mono ?_; rintro e w1 ⟨rfl, hb⟩)
  go_ret
  exact ⟨rfl, hb⟩
/-- The general append, at a plain region's list within a fence. -/
theorem wplIn_app_gen {F : Fence} {fn : Nat} {ops : Array Oper} {rest : List Oper} {o : Oper} {a : Act} {w : World} {Q : Exit → Act → World → Prop} (hgd : o.guard = none) (s x : Operand) (t e : TypeId) (k bytes : Nat) (z : Value)
    (ho : o.op = .call { callee := .builtin .append, args := #[s, x], argTypes := #[t, t] })
    (hu : Try.prog.underlying t = some (.slice e)) (hinfo : (Try.prog.info? e).map (fun i => (i.zero, i.size, i.bytes)) = some (some z, k, bytes)) (hzk : z.cells.size = k) (hk : 0 < k) (hby : bytes ≤ 1000)
    (base : Nat) (v0 : Value) (n0 : Nat) (xs0 : List Value) (hs : a.eval s = v0) (hown : w.ownsRow base e k v0 n0 xs0) (v1 : Value) (m : Nat) (news : List Value) (hx : a.eval x = v1) (hsrc : Src w v1 m news) (hlen : news.length = m * k) (h1 : ∀ u ∈ news, u.oneCell' = true) (hl : n0 + m ≤ 1000000) (hbase : base ≤ w.heap.size) (nn : Nat) (hnn : n0 + m = nn)
    (h : ∀ oa c w', w'.ownsRow base e k (.slice oa nn c) nn (xs0 ++ news) → w.grownBy w' v0.ownBlock → ((Value.slice oa nn c).ownBlock = v0.ownBlock ∨ (Value.slice oa nn c).ownBlock = some w.heap.size) → wpListIn F fn Try.prog ops Q rest (a.put o.dst (.slice oa nn c)) w') : wpListIn F fn Try.prog ops Q (o :: rest) a w := by
  refine wpListIn_plain hgd fun K hK' => ?_
  obtain ⟨oa, c, w', hrun, h2, h3, h4⟩ := run_app_gen w t e o.type k bytes z hu hinfo hzk hk hby base v0 n0 xs0 hown v1 m news hsrc hlen h1 hl hbase nn hnn
  unfold Oper.wpIn
  refine ⟨?_, ?_⟩
  · simp [Oper.about, ho, resolve, Target.leads, Sem.run_pure]
  · rw [Oper.semAt_plain F _ _ (by rw [ho]; intro c hc'; cases hc')]
    simp [execOp, ho, resolve, invoke, builtin, hs, hx, hrun, Result.andThen]
    exact hK' _ _ (h oa c w' h2 h3 h4)

/-- What holds ahead of a round of Pieces' range; z: the heap's size where it began. -/
def PgI (w : World) (z Ba : Nat) (pre : List Pc) (T : Nat → Prop) (W : World) : Prop :=
  ∃ v, Blk W Ba #[v] 23 ∧ W.ownsRow (z + 2) 26 3 v pre.length (cellsC pre) ∧ (∀ g, v.ownBlock = some g → ¬ T g) ∧ (∀ b, T b → z + 2 ≤ b) ∧ z + 2 ≤ W.heap.size ∧ Below w.heap.size w W
theorem PgI.abid {w : World} {z Ba : Nat} (hb : Ba < z) (hw : w.heap.size ≤ z) : AbidL (z + 1) (PgI w z Ba) := by
  rintro pre T W W' T' ⟨v, h1, h3, h2, hT, hzW, hB⟩ hf hT'
  have no : ∀ b, b < z → ¬ (T b ∨ b = z + 1) := fun b hb hh => by rcases hh with g | g; have := hT b g; omega; omega
  refine ⟨v, h1.frm hf (no _ hb), own_frm hf h3 (fun g hg hh => ?_), fun g hg hh => ?_, fun b hb => ?_, ?_, ?_⟩
  · rcases hh with e | e
    · exact h2 g hg e
    · have := own_ge h3 g hg; omega
  · rcases hT' g hh with e | e
    · exact h2 g hg e
    · have := own_lt h3 g hg; omega
  · rcases hT' b hb with e | e
    · exact hT b e
    · omega
  · have := hf.size; omega
  · exact hB.trans ((hf.below (n := w.heap.size) hB.size (fun b hh => by rcases hh with e | e; have := hT b e; omega; omega)))
section
variable (w : World)
set_option maxRecDepth 100000 in
set_option maxHeartbeats 8000000 in
theorem piecesL_any (s : ByteArray) (hs : s.size ≤ 60000) :
    Calls Try.prog 7 #[.string s] w fun e w' => ∃ v, e = .returned v ∧ PcS w' w.heap.size v (PCs s) ∧ Below w.heap.size w w' := by
  have hok := pcOk_t hs
  have hlen := PCs_len s hs
  have HPI := Lib.hid (fun W => pieces_any W s hs)
  refine (callsIn_wide (n := 5)).1 ?_
  have hfn : Fence.wide.fn 7 := trivial
  have bb := Blk.new w #[.slice none 0 0] 23
  have hB0 : Below w.heap.size w (w.alloc (.cells #[.slice none 0 0] 23)) := (Below.refl _ w).alloc (Nat.le_refl _) _
  have hz0 : (w.alloc (.cells #[.slice none 0 0] 23)).heap.size = w.heap.size + 1 := by simp
  refine callsIn_of_wp_marks Try.func7 rfl hfn ?_ rfl
  refine (wpIn_wide (n := 5)).2 ?_
  simp only [Try.ntmps7, List.size_toArray, List.length_cons, List.length_nil, Nat.reduceAdd, Nat.reduceSub, Array.replicate_succ, Array.replicate_zero, List.push_toArray, List.append_toArray, List.nil_append, List.cons_append]
  go_wp2_with fail
  obtain ⟨W0, hW0⟩ : ∃ X, w.alloc (.cells #[.slice none 0 0] 23) = X := ⟨_, rfl⟩
  rw [hW0] at bb hB0 hz0 ⊢
  clear hW0
  obtain ⟨Ba, h6⟩ : ∃ x, w.heap.size = x := ⟨_, rfl⟩
  have H6 := Lib.hid h6
  rw [h6] at bb hz0 ⊢
  refine (HPI.out _).mono ?_
  rintro en W1 ⟨mb, Bd, Bf, Bt, Br, rfl, hB1, hcap, hbf, hge⟩
  have hz1 := hB1.size
  have hBw : Below w.heap.size w W1 := hB0.trans (hB1.mono hB0.size)
  have hseq : ∀ W, Below W1.heap.size W1 W → SeqT (5 - 1) Try.prog 50 #[.pointer (some ⟨Bd, 0, none⟩), .pointer (some ⟨Bf, 0, none⟩), .pointer (some ⟨Bt, 0, none⟩), .pointer (some ⟨Br, 0, none⟩)] encC (CapC Bd Bt Br mb) (PCs s) W := fun W hW =>
    top_seq 4 (by omega) s hs mb Bd Bf Bt Br W (hcap.same (fun b hb => hW.block b (hcap.lt b hb))) (hbf.below hW)
  have hord : Ba < W1.heap.size ∧ w.heap.size ≤ W1.heap.size := by omega
  have hcge : ∀ b, CapC Bd Bt Br mb b → Ba < b ∧ b < W1.heap.size := fun b hb => ⟨by have := hge b hb; omega, hcap.lt b hb⟩
  have HSEQ := Lib.hid hseq
  have HCG := Lib.hid hcge
  have HOK := Lib.hid hok
  have HLEN := Lib.hid hlen
  have cb := bb.below hB1
  clear hseq hcge hcap hbf hge hok h6 bb hB0 hz0 hB1 hz1 hlen
  go_wp2
  refine (wpIn_wide (n := 5)).1 (wpT (L := PCs s) (encs := encC) (C := CapC Bd Bt Br mb) (gf := 50) (lb := #[.pointer (some ⟨Bd, 0, none⟩), .pointer (some ⟨Bf, 0, none⟩), .pointer (some ⟨Bt, 0, none⟩), .pointer (some ⟨Br, 0, none⟩)]) rfl (enters_of Try.func50 (by kernel_rfl) rfl) HSEQ.out (fun b hb => (HCG.out b hb).2) ?hps
    (PgI w W1.heap.size Ba) (fun _ _ _ _ => False) (PgI.abid hord.1 hord.2) (fun _ _ _ _ _ _ h _ _ => h) ?start ?round ?fin ?stop)
  case hps => intro x; rfl
  case start =>
    intro W hB hz
    exact ⟨.slice none 0 0, cb.below hB, World.ownsRow_nil _ _ _ _, (fun g hg => by cases hg), (fun b hb => hb.elim), by omega, hBw.trans (hB.mono hBw.size)⟩
  case stop => rintro c pre T W h; exact h.elim
  case fin =>
    rintro T W ⟨v, h1, h3, h2, hT, hzW, hB⟩ hWz hWd
    have c0 := h1.cell 0
    have H3 := Lib.hid h3
    have HD := Lib.hid hWd
    clear h2 h3
    dsimp only
    go_wp2
    refine ⟨by simp, .inl ⟨_, _, rfl, run_takeDeferred HD.out, ?_⟩⟩
    refine ⟨v, ?_, ⟨v, rfl, ?_, ?_⟩⟩
    · simp [results, Try.f7, go_sem]
    · have hne : ∀ g, v.ownBlock = some g → g ≠ W1.heap.size := fun g hg => by have := own_ge H3.out g hg; omega
      have := own_frm (p := fun b => b = W1.heap.size) (frm_put W (l := W1.heap.size) (.deferred none) rfl) H3.out hne
      exact own_lower this (by omega)
    · exact hB.trans (belowK_b (w := w) (Nat.le_refl _) W W1.heap.size _ _ (by omega) HD.out rfl rfl)
  case round =>
    rintro pre x rest T W hLx ⟨v, h1, h3, h2, hT, hzW, hB⟩ hTb hWz hrec hdef t1 t2
    simp only [encC, aggC]
    gi_wp2
    obtain ⟨W2, hW2⟩ : ∃ X, W.alloc (.cells #[.bool x.ex, .bool x.q, .string x.t] 26) = X := ⟨_, rfl⟩
    have hB2 : Below W.heap.size W W2 := by rw [← hW2]; exact (Below.refl _ _).alloc (Nat.le_refl _) _
    have kX : Blk W2 W.heap.size #[.bool x.ex, .bool x.q, .string x.t] 26 := by rw [← hW2]; exact Blk.new W _ _
    have z2 : W2.heap.size = W.heap.size + 1 := by rw [← hW2]; simp
    rw [hW2]
    clear hW2
    refine ⟨hB2.block _ (by omega), hB2.block _ (by omega), ⟨hB2.size, fun b hb _ => hB2.block b hb⟩, fun r => ?_⟩
    obtain ⟨W3, hW3⟩ : ∃ X, W2.putObj (W1.heap.size + 1) (.loop r) = X := ⟨_, rfl⟩
    have z3 : W3.heap.size = W.heap.size + 1 := by rw [← hW3, ← z2]; simp
    have hF3 : Frm (fun b => b = W1.heap.size + 1) W W3 := by
      rw [← hW3]
      exact (Frm.of_below hB2).trans (frm_put (p := fun b => b = W1.heap.size + 1) W2 _ rfl) (fun _ _ h => h)
    have kX3 : Blk W3 W.heap.size #[.bool x.ex, .bool x.q, .string x.t] 26 := by
      rw [← hW3]
      exact (World.putObj_heap_other (by omega)).trans kX
    rw [hW3]
    clear hW3 kX hB2 z2 hrec hdef
    have hb3 := h1.frm hF3 (by omega)
    have ho3 := own_frm hF3 h3 (fun g hg e => by have := own_ge h3 g hg; omega)
    have x2 := kX3.cell 2
    have hBW3 : Below w.heap.size w W3 := hB.trans (hF3.below (by omega) (fun b hb => by omega))
    have hokx := HOK.out pre x rest hLx
    have hlpre : pre.length + 1 ≤ 120001 := by
      have := HLEN.out
      rw [hLx, List.length_append, List.length_cons] at this
      omega
    have hwl : w.heap.size ≤ W3.heap.size := hBW3.size
    have hvlt : ∀ g, v.ownBlock = some g → g < W.heap.size := own_lt h3
    have hvge : ∀ g, v.ownBlock = some g → W1.heap.size + 2 ≤ g := own_ge h3
    have H2 := Lib.hid h2
    have hcl := clone_any x.t W3 (by have := hokx.1; omega)
    have HCL := Lib.hid (CallsIn.inRound (W1.heap.size + 1) ((callsIn_wide (n := 5 - 1 - 1 - 1)).2 hcl))
    have h11 : 1 ≤ 5 - 1 - 1 := by omega
    have HO3 := Lib.hid ho3
    have HVL := Lib.hid hvlt
    have HVG := Lib.hid hvge
    clear h1 h2 h3 hLx hcl hokx ho3 hvlt hvge
    gi_wp2_with fail
    refine ⟨trivial, (HCL.out).mono ?_⟩
    rintro en W6 ⟨rfl, hB6⟩
    have hs6 := hB6.size
    have k6 : Blk W6 W.heap.size #[.bool x.ex, .bool x.q, .string x.t] 26 := (hB6.block _ (by omega)).trans kX3
    have b6 : Blk W6 Ba #[v] 23 := (hB6.block _ (by omega)).trans hb3
    have hBa : ¬ Ba = W.heap.size := by omega
    have hBa2 : ¬ W.heap.size = Ba := by omega
    have ho6 := own_below HO3.out hB6
    have f62 := k6.frozen 2
    have c62 := k6.cell 2
    have k7 := k6.set 2 (.string x.t)
    have b7 := b6.other 2 (.string x.t) hBa
    have hF7 : Frm (fun b => b = W.heap.size) W6 (W6.setCell ⟨W.heap.size, 2, none⟩ (.string x.t)) := Frm.setCell (p := fun b => b = W.heap.size) (Frm.refl _ W6) 2 (.inl rfl) _
    have ho7 := own_frm hF7 ho6 (fun g hg e => by have := HVL.out g hg; omega)
    have d0 := k7.cell 0
    have d1 := k7.cell 1
    have d2 := k7.cell 2
    have e0 := b7.cell 0
    have ef := b7.frozen 0
    have hs7 := hF7.size
    have hBF : Below w.heap.size w (W6.setCell ⟨W.heap.size, 2, none⟩ (.string x.t)) := (hBW3.trans (hB6.mono hwl)).trans (hF7.below (by omega) (fun b hb => by have := H6.out; have := hord.1; omega))
    have hK0 : Frm (fun b => b = W.heap.size) W3 (W6.setCell ⟨W.heap.size, 2, none⟩ (.string x.t)) := (Frm.of_below (p := fun b => b = W.heap.size) hB6).trans hF7 (fun _ _ h => h)
    obtain ⟨z, hz⟩ : ∃ z, pre.length = z := ⟨_, rfl⟩
    have hz7 : (W6.setCell ⟨W.heap.size, 2, none⟩ (.string x.t)).heap.size = W6.heap.size := by simp
    have kq := Blk.new (W6.setCell ⟨W.heap.size, 2, none⟩ (.string x.t)) #[.bool x.ex, .bool x.q, .string x.t] 26
    rw [hz7] at kq
    rw [hz] at ho7 hlpre
    have hneB : ∀ g, v.ownBlock = some g → g ≠ Ba := fun g hg => by have := HVG.out g hg; omega
    have HO7 := Lib.hid ho7
    have HKQ := Lib.hid kq
    have HZ := Lib.hid hz
    have HNB := Lib.hid hneB
    have HB7 := Lib.hid b7
    have HHZ := Lib.hid hz7
    clear ho7 kq hz hneB hs7
    gi_wp2_with (gi_at_builtin; refine wplIn_app_gen rfl _ _ 23 26 3 24 _ rfl Try.underlying23 infoPc rfl (by omega) (by omega) (W1.heap.size + 2) v z (cellsC pre) rfl (own_alloc HO7.out _) _ 1 (cellC x) rfl (src_blk HKQ.out) rfl (cellC_one _) (by omega) (by rw [World.size_alloc, HHZ.out]; omega) (z + 1) rfl ?_; intro oa8 c8 W8 hown8 hgr8 hg8; have b8 := (HB7.out.alloc (.cells #[.bool x.ex, .bool x.q, .string x.t] 26)).grown hgr8 (fun e => HNB.out _ e.symm rfl); have ef8 := b8.frozen 0; have e8 := b8.cell 0)
    have hF8 : Frm (fun b => b = W.heap.size ∨ b = Ba ∨ v.ownBlock = some b) W3 W8 := ((hK0.mono (q := fun b => b = W.heap.size ∨ b = Ba ∨ v.ownBlock = some b) (fun _ _ h => .inl h)).alloc _).grown hgr8 (fun k hk => .inl (.inr (.inr hk)))
    have hF9 : Frm (fun b => b = W.heap.size ∨ b = Ba ∨ v.ownBlock = some b) W3 (W8.setCell ⟨Ba, 0, none⟩ (.slice oa8 (z + 1) c8)) := hF8.setCell 0 (.inl (.inr (.inl rfl))) _
    have hno : ∀ b, b < W1.heap.size + 2 → b ≠ Ba → ¬ (b = W.heap.size ∨ b = Ba ∨ v.ownBlock = some b) := fun b hb hn hh => by
      rcases hh with e | e | e
      · omega
      · exact hn e
      · have := HVG.out b e; omega
    have hs8 := hF8.size
    have k9 := b8.set 0 (.slice oa8 (z + 1) c8)
    have ho9 := own_frm (p := fun b => b = Ba) (Frm.setCell (p := fun b => b = Ba) (Frm.refl _ W8) 0 (.inl rfl) (.slice oa8 (z + 1) c8)) hown8 (fun g hg e => by have := own_ge hown8 g hg; omega)
    refine ⟨hF9.block _ (by omega) (hno _ (by omega) (by omega)), hF9.block _ (by omega) (hno _ (by omega) (by omega)), KpT.of_frm hF9 (fun b _ hb => ⟨fun ht => ?_, fun hc => ?_⟩), ⟨.slice oa8 (z + 1) c8, k9, ?_, fun g hg ht => ?_, hT, ?_, ?_⟩⟩
    · rcases hb with e | e | e
      · have := hTb b ht; omega
      · have := hT b ht; omega
      · exact H2.out b e ht
    · have h1 := HCG.out b hc
      rcases hb with e | e | e
      · omega
      · omega
      · have := HVG.out b e; omega
    · rw [List.length_append, HZ.out, cellsC_append]
      simpa [cellsC] using ho9
    · rcases hg8 with e | e
      · exact H2.out g (e.symm.trans hg) ht
      · rw [e, World.size_alloc, HHZ.out] at hg
        injection hg with hg
        have := hTb g ht
        omega
    · have := hF9.size; omega
    · exact hBW3.trans (hF9.below hwl (fun b hb => by
        have := H6.out
        rcases hb with e | e | e
        · omega
        · omega
        · have := HVG.out b e; omega))
end
end Go.Proofs.Ytiklnlkakhghdaa

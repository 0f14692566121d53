/- What shielded, meant, Value and Pattern of layer 8 (literal) return: by the pieces of a text. Condition: texts of at most 60,000 bytes. -/
import Derived.Test.YtiklnlkakhghdaaLtW
import Derived.Test.YtiklnlkakhghdaaMdLw
namespace Go.Proofs.Ytiklnlkakhghdaa
open Go.RowKit Go.Shelf
set_option linter.unusedVariables false

section
variable (w : World)
def ShRl (x : Pc) (w : World) (v13 : Value) (wr : World) : Prop := ∃ i : Nat, i ≤ x.t.size ∧ v13 = .int .i64 (i : Int) ∧ Bld (w.heap.size + 1) (Lib.byteCells (shT (x.t.data.toList.take i))) wr ∧ Blk wr w.heap.size #[.bool x.ex, .bool x.q, .string x.t] 26 ∧ Below w.heap.size w wr ∧ w.heap.size + 2 ≤ wr.heap.size
set_option maxRecDepth 100000 in
set_option maxHeartbeats 4000000 in
theorem shielded_any (x : Pc) (hs : x.t.size ≤ 60000) :
    Calls Try.prog 25 #[aggC x] w fun e w' => e = .returned (.string (shP x)) ∧ Below w.heap.size w w' := by
  unfold aggC
  have kb := Blk.new w #[.bool x.ex, .bool x.q, .string x.t] 26
  have hB1 : Below w.heap.size w (w.alloc (.cells #[.bool x.ex, .bool x.q, .string x.t] 26)) := (Below.refl _ w).alloc (Nat.le_refl _) _
  cases hq : x.q with
  | false =>
    have HS : Hid (shP x = x.t) := Lib.hid (by unfold shP; rw [if_pos hq])
    rw [hq] at hB1
    clear hq kb
    go_enter Try.func25, Try.ntmps25
    go_wp2
    go_ret
    exact ⟨by rw [HS.out]; rfl, hB1⟩
  | true =>
    have HS : Hid (shP x = ⟨(shT x.t.data.toList).toArray⟩) := Lib.hid (by unfold shP; rw [if_neg (by rw [hq]; decide)])
    rw [hq] at hB1 kb
    have kb2 := kb.alloc (.cells #[.pointer none, .slice none 0 0] 52)
    have hB2 : Below w.heap.size w ((w.alloc (.cells #[.bool x.ex, .bool true, .string x.t] 26)).alloc (.cells #[.pointer none, .slice none 0 0] 52)) := hB1.alloc (by simp) _
    have hfb : Bld (w.heap.size + 1) [] ((w.alloc (.cells #[.bool x.ex, .bool true, .string x.t] 26)).alloc (.cells #[.pointer none, .slice none 0 0] 52)) := by
      have := Lib.fresh_isBuilder 52 5 (w.alloc (.cells #[.bool x.ex, .bool true, .string x.t] 26))
      rw [World.size_alloc] at this
      exact this
    have hz2 : ((w.alloc (.cells #[.bool x.ex, .bool true, .string x.t] 26)).alloc (.cells #[.pointer none, .slice none 0 0] 52)).heap.size = w.heap.size + 2 := by simp
    have HQ := Lib.hid hq
    clear hq kb
    go_enter Try.func25, Try.ntmps25
    go_wp2
    go_loopw [13] (fun v13 wr => ShRl x w v13 wr) (fun v _ => x.t.size - (intOf v).toNat)
    case atStart => exact ⟨0, Nat.zero_le _, rfl, hfb, by rw [HQ.out]; exact kb2, hB2, by omega⟩
    case round =>
      obtain ⟨i, hi, rfl, hbd, hk, hB, hsz⟩ := hrel
      rw [HQ.out] at hk
      have p2 := hk.cell 2
      by_cases hlt : (i : Int) < (x.t.size : Int)
      · have hlt' : i < x.t.size := by omega
        have hll : i < x.t.data.toList.length := by simpa using hlt'
        have hcl := shT_len (x.t.data.toList.take i)
        have hcl2 : (x.t.data.toList.take i).length = i := by rw [List.length_take]; omega
        have htk := shT_take x.t.data.toList hll
        obtain ⟨bb, hbb⟩ : ∃ bb, by8 x.t i = bb := ⟨_, rfl⟩
        have hix : ∀ hh : i < x.t.size, (x.t[i]'hh).toNat = bb := fun hh => by rw [← hbb]; unfold by8; rw [bt_eq hh]
        have hgb : (x.t.data.toList[i].toNat : Int) = (bb : Int) := by rw [← hix hlt']; rfl
        rw [hgb] at htk
        obtain ⟨xs, hxs⟩ : ∃ xs, Lib.byteCells (shT (x.t.data.toList.take i)) = xs := ⟨_, rfl⟩
        rw [hxs] at hbd hcl htk
        have HTK := Lib.hid htk
        have q0 : (0 : Int) ≤ (i : Int) := by omega
        clear hbb hgb htk hxs
        go_wp2_with fail
        refine (bbyte_any (w.heap.size + 1) xs 92 _ hbd (by omega) (by omega)).mono ?_
        rintro e w3 ⟨rfl, hbd3, hB3⟩
        have hk3 : Blk w3 w.heap.size #[.bool x.ex, .bool true, .string x.t] 26 := (hB3.block _ (by omega)).trans hk
        have p2 := hk3.cell 2
        have hs3 := hB3.size
        go_wp2_with fail
        refine (bbyte_any (w.heap.size + 1) (xs ++ [.int .u8 92]) bb _ hbd3 (by simp; omega) (by omega)).mono ?_
        rintro e w4 ⟨rfl, hbd4, hB4⟩
        have hk4 : Blk w4 w.heap.size #[.bool x.ex, .bool true, .string x.t] 26 := (hB4.block _ (by omega)).trans hk3
        have hs4 := hB4.size
        go_wp2
        go_roundw
        case rel => exact ⟨i + 1, by omega, by go_num, by rw [HTK.out]; exact hbd4, by rw [HQ.out]; exact hk4, hB.trans ((hB3.mono (by omega)).trans (hB4.mono (by omega))), by omega⟩
        case measure => simp [intOf]; omega
      · obtain rfl : i = x.t.size := by omega
        have htk : x.t.data.toList.take x.t.size = x.t.data.toList := List.take_of_length_le (by simp)
        rw [htk] at hbd
        have hstr := Try.Builder_String_any (w.heap.size + 1) (w.heap.size + 1) (shT x.t.data.toList) _ hbd (by omega)
        have HSTR := Lib.hid hstr
        clear hstr htk hbd p2 hk
        go_wp2_with fail
        refine (HSTR.out).mono ?_
        rintro e w5 ⟨rfl, hB5⟩
        go_wp2
        go_ret
        exact ⟨by rw [HS.out]; rfl, hB.trans (hB5.mono (by omega))⟩
end
end Go.Proofs.Ytiklnlkakhghdaa
namespace Go.Proofs.Ytiklnlkakhghdaa
open Go.RowKit Go.Shelf
set_option linter.unusedVariables false
attribute [local go_sem] Oper.semAt_some

/-- A function that writes a piece. -/
def WrF (k : Nat) (f : Pc → ByteArray) : Prop := ∀ (x : Pc) (W : World), x.t.size ≤ 60000 → Calls Try.prog k #[aggC x] W fun e w' => e = .returned (.string (f x)) ∧ Below W.heap.size W w'
/-- What meant answers. -/
def MeR (f : Pc → ByteArray) (L : List Pc) (e : Ending) : Prop := e = .returned (if L.any (fun x => x.ex) = true then .tuple #[.string ⟨#[]⟩, .bool false] else .tuple #[.string (catW f L), .bool true])
section
variable (w : World)
set_option maxHeartbeats 1000000 in
theorem value1_wrf : WrF 24 (fun x => x.t) := by
  intro x W hx
  unfold aggC
  go_enter Try.func24, Try.ntmps24
  go_wp2
  go_ret
  exact ⟨rfl, (Below.refl _ _).alloc (Nat.le_refl _) _⟩
theorem shielded_wrf : WrF 25 shP := fun x W hx => shielded_any W x hx

/-- What holds ahead of a round of meant's range; z: the heap's size where it began. -/
def MeI (f : Pc → ByteArray) (k : Nat) (w : World) (z B3 B4 B5 Bb : Nat) (pre : List Pc) (T : Nat → Prop) (W : World) : Prop :=
  ∃ v, BldV Bb v (Lib.strCells (catW f pre)) W ∧ (∀ g, v.ownBlock = some g → z + 2 ≤ g ∧ ¬ T g) ∧ Blk W B3 #[.func (.func k) #[] #[]] 48 ∧ Blk W B4 #[.string ⟨#[]⟩] 9 ∧ Blk W B5 #[.bool false] 4 ∧ (∀ b, T b → z + 2 ≤ b) ∧ z + 2 ≤ W.heap.size ∧ Below w.heap.size w W ∧ pre.any (fun x => x.ex) = false
def MeX (L : List Pc) (w : World) (z B4 B5 : Nat) (c : Code) (pre : List Pc) (T : Nat → Prop) (W : World) : Prop :=
  c = .ret ∧ Blk W B4 #[.string ⟨#[]⟩] 9 ∧ Blk W B5 #[.bool false] 4 ∧ (∀ b, T b → z + 2 ≤ b) ∧ z + 2 ≤ W.heap.size ∧ Below w.heap.size w W ∧ L.any (fun x => x.ex) = true
theorem MeI.abid {f : Pc → ByteArray} {k : Nat} {w : World} {z B3 B4 B5 Bb : Nat} (h3 : B3 < z) (h4 : B4 < z) (h5 : B5 < z) (hb : Bb < z) (hw : w.heap.size ≤ z) : AbidL (z + 1) (MeI f k w z B3 B4 B5 Bb) := by
  rintro pre T W W' T' ⟨v, h1, h2, k3, k4, k5, hT, hzW, hB, ha⟩ hf hT'
  have no : ∀ b, b < z → ¬ (T b ∨ b = z + 1) := fun b hb hh => by rcases hh with g | g; have := hT b g; omega; omega
  refine ⟨v, h1.frm hf (no _ hb) (fun g hg hh => ?_), fun g hg => ⟨(h2 g hg).1, fun hh => ?_⟩, k3.frm hf (no _ h3), k4.frm hf (no _ h4), k5.frm hf (no _ h5), fun b hb => ?_, ?_, ?_, ha⟩
  · have := h2 g hg
    rcases hh with e | e
    · exact this.2 e
    · omega
  · rcases hT' g hh with e | e
    · exact (h2 g hg).2 e
    · have := own_lt h1.2 g hg; omega
  · rcases hT' b hb with e | e
    · exact hT b e
    · omega
  · have := hf.size; omega
  · exact hB.trans ((hf.below (n := w.heap.size) hB.size (fun b hh => by rcases hh with e | e; have := hT b e; omega; omega)))
theorem MeX.abid {L : List Pc} {w : World} {z B4 B5 : Nat} (h4 : B4 < z) (h5 : B5 < z) (hw : w.heap.size ≤ z) (c : Code) : AbidL (z + 1) (MeX L w z B4 B5 c) := by
  rintro pre T W W' T' ⟨rfl, k4, k5, hT, hzW, hB, ha⟩ hf hT'
  have no : ∀ b, b < z → ¬ (T b ∨ b = z + 1) := fun b hb hh => by rcases hh with g | g; have := hT b g; omega; omega
  refine ⟨rfl, k4.frm hf (no _ h4), k5.frm hf (no _ h5), fun b hb => ?_, ?_, ?_, ha⟩
  · rcases hT' b hb with e | e
    · exact hT b e
    · omega
  · have := hf.size; omega
  · exact hB.trans ((hf.below (n := w.heap.size) hB.size (fun b hh => by rcases hh with e | e; have := hT b e; omega; omega)))
set_option maxRecDepth 100000 in
set_option maxHeartbeats 8000000 in
theorem meant_any (s : ByteArray) (hs : s.size ≤ 60000) (k : Nat) (f : Pc → ByteArray) (hk : WrF k f) (hk2 : ∀ args W, (callFunc k args).run Try.prog W = .ok (.enter k args) W) (hok : PcOk f (PCs s)) :
    Calls Try.prog 23 #[.string s, .func (.func k) #[] #[]] w fun e w' => MeR f (PCs s) e ∧ Below w.heap.size w w' := by
  have HK := Lib.hid hk
  have HPI := Lib.hid (fun W => pieces_any W s hs)
  refine (callsIn_wide (n := 5)).1 ?_
  have hfn : Fence.wide.fn 23 := trivial
  have b3 := (((Blk.new w #[.func (.func k) #[] #[]] 48).alloc (.cells #[.string ⟨#[]⟩] 9)).alloc (.cells #[.bool false] 4)).alloc (.cells #[.pointer none, .slice none 0 0] 52)
  have b4 := ((Blk.new (w.alloc (.cells #[.func (.func k) #[] #[]] 48)) #[.string ⟨#[]⟩] 9).alloc (.cells #[.bool false] 4)).alloc (.cells #[.pointer none, .slice none 0 0] 52)
  have b5 := (Blk.new ((w.alloc (.cells #[.func (.func k) #[] #[]] 48)).alloc (.cells #[.string ⟨#[]⟩] 9)) #[.bool false] 4).alloc (.cells #[.pointer none, .slice none 0 0] 52)
  have bb := Blk.new (((w.alloc (.cells #[.func (.func k) #[] #[]] 48)).alloc (.cells #[.string ⟨#[]⟩] 9)).alloc (.cells #[.bool false] 4)) #[.pointer none, .slice none 0 0] 52
  have hB0 : Below w.heap.size w ((((w.alloc (.cells #[.func (.func k) #[] #[]] 48)).alloc (.cells #[.string ⟨#[]⟩] 9)).alloc (.cells #[.bool false] 4)).alloc (.cells #[.pointer none, .slice none 0 0] 52)) := ((((Below.refl _ w).alloc (Nat.le_refl _) _).alloc (by simp) _).alloc (by simp; omega) _).alloc (by simp; omega) _
  have hz0 : ((((w.alloc (.cells #[.func (.func k) #[] #[]] 48)).alloc (.cells #[.string ⟨#[]⟩] 9)).alloc (.cells #[.bool false] 4)).alloc (.cells #[.pointer none, .slice none 0 0] 52)).heap.size = w.heap.size + 4 := by simp
  simp only [World.size_alloc] at b4 b5 bb
  refine callsIn_of_wp_marks Try.func23 rfl hfn ?_ rfl
  refine (wpIn_wide (n := 5)).2 ?_
  simp only [Try.ntmps23, List.size_toArray, List.length_cons, List.length_nil, Nat.reduceAdd, Nat.reduceSub, Array.replicate_succ, Array.replicate_zero, List.push_toArray, List.append_toArray, List.nil_append, List.cons_append]
  go_wp2_with fail
  obtain ⟨W0, hW0⟩ : ∃ X, (((w.alloc (.cells #[.func (.func k) #[] #[]] 48)).alloc (.cells #[.string ⟨#[]⟩] 9)).alloc (.cells #[.bool false] 4)).alloc (.cells #[.pointer none, .slice none 0 0] 52) = X := ⟨_, rfl⟩
  rw [hW0] at b3 b4 b5 bb hB0 hz0 ⊢
  clear hW0
  obtain ⟨B3, h3⟩ : ∃ x, w.heap.size = x := ⟨_, rfl⟩
  have H3 := Lib.hid h3
  rw [h3] at b3 b4 b5 bb hz0 ⊢
  obtain ⟨B4, h4⟩ : ∃ x, B3 + 1 = x := ⟨_, rfl⟩
  rw [h4] at b4 b5 bb ⊢
  obtain ⟨B5, h5⟩ : ∃ x, B4 + 1 = x := ⟨_, rfl⟩
  rw [h5] at b5 bb ⊢
  obtain ⟨Bb, h6⟩ : ∃ x, B5 + 1 = x := ⟨_, rfl⟩
  rw [h6] at bb ⊢
  refine (HPI.out _).mono ?_
  rintro en W1 ⟨mb, Bd, Bf, Bt, Br, rfl, hB1, hcap, hbf, hge⟩
  have hz1 := hB1.size
  have hBw : Below w.heap.size w W1 := hB0.trans (hB1.mono hB0.size)
  have hseq : ∀ W, Below W1.heap.size W1 W → SeqT (5 - 1) Try.prog 50 #[.pointer (some ⟨Bd, 0, none⟩), .pointer (some ⟨Bf, 0, none⟩), .pointer (some ⟨Bt, 0, none⟩), .pointer (some ⟨Br, 0, none⟩)] encC (CapC Bd Bt Br mb) (PCs s) W := fun W hW =>
    top_seq 4 (by omega) s hs mb Bd Bf Bt Br W (hcap.same (fun b hb => hW.block b (hcap.lt b hb))) (hbf.below hW)
  have hI1 : MeI f k w W1.heap.size B3 B4 B5 Bb [] (fun _ => False) W1 ∨ True := .inr trivial
  have hord : B3 < W1.heap.size ∧ B4 < W1.heap.size ∧ B5 < W1.heap.size ∧ Bb < W1.heap.size ∧ w.heap.size ≤ W1.heap.size := by omega
  have hcge : ∀ b, CapC Bd Bt Br mb b → Bb < b ∧ b < W1.heap.size := fun b hb => ⟨by have := hge b hb; omega, hcap.lt b hb⟩
  have HSEQ := Lib.hid hseq
  have HCG := Lib.hid hcge
  have HOK := Lib.hid hok
  have hall : B3 < B4 ∧ B4 < B5 ∧ B5 < Bb := by omega
  have c3 := b3.below hB1
  have c4 := b4.below hB1
  have c5 := b5.below hB1
  have cb := bb.below hB1
  clear hseq hcge hI1 hcap hbf hge hok h3 h4 h5 h6 b3 b4 b5 bb hB0 hz0 hB1 hz1
  go_wp2
  refine (wpIn_wide (n := 5)).1 (wpT (L := PCs s) (encs := encC) (C := CapC Bd Bt Br mb) (gf := 50) (lb := #[.pointer (some ⟨Bd, 0, none⟩), .pointer (some ⟨Bf, 0, none⟩), .pointer (some ⟨Bt, 0, none⟩), .pointer (some ⟨Br, 0, none⟩)]) rfl (enters_of Try.func50 (by kernel_rfl) rfl) HSEQ.out (fun b hb => (HCG.out b hb).2) ?hps
    (MeI f k w W1.heap.size B3 B4 B5 Bb) (MeX (PCs s) w W1.heap.size B4 B5) (MeI.abid hord.1 hord.2.1 hord.2.2.1 hord.2.2.2.1 hord.2.2.2.2) (MeX.abid hord.2.1 hord.2.2.1 hord.2.2.2.2) ?start ?round ?fin ?stop)
  case hps => intro x; rfl
  case start =>
    intro W hB hz
    exact ⟨.slice none 0 0, ⟨.inl (cb.below hB), World.ownsRow_nil _ _ _ _⟩, (fun g hg => by cases hg), c3.below hB, c4.below hB, c5.below hB, (fun b hb => hb.elim), by omega, hBw.trans (hB.mono hBw.size), rfl⟩
  case fin =>
    rintro T W ⟨v, h1, h2, k3, k4, k5, hT, hzW, hB, ha⟩ hWz hWd
    have hstr := Try.Builder_String_any_k Bb Bb (catW f (PCs s)).data.toList W (Lib.IsBuilderF.of h1.isB) (by have := h1.lt; omega)
    have HSTR := Lib.hid hstr
    have K4 := Lib.hid k4
    have K5 := Lib.hid k5
    have hWd' := Lib.hid hWd
    clear hstr h1 h2 k3 k4 k5
    dsimp only
    go_wp2_with fail
    refine (HSTR.out).mono ?_
    rintro en W2 ⟨rfl, _, hB2, ho2⟩
    have hD2 := ho2 W1.heap.size _ hWd (fun e => by injection e with e'; omega) (fun c fz e => by cases e)
    have k4 : Blk W2 B4 #[.string ⟨#[]⟩] 9 := (hB2.block _ (by omega)).trans K4.out
    have k5 : Blk W2 B5 #[.bool false] 4 := (hB2.block _ (by omega)).trans K5.out
    have c4 := k4.cell 0
    have f4 := k4.frozen 0
    have c5 := k5.cell 0
    have f5 := k5.frozen 0
    have hne45 : B4 ≠ B5 := by omega
    have hne54 : B5 ≠ B4 := by omega
    have HA := Lib.hid ha
    have HD := Lib.hid hD2
    have HB2 := Lib.hid hB2
    clear ho2 hD2 hB2 ha
    go_wp2
    have hF2 : Frm (fun b => b = B4 ∨ b = B5) W2 ((W2.setCell ⟨B4, 0, none⟩ (.string ⟨(catW f (PCs s)).data⟩)).setCell ⟨B5, 0, none⟩ (.bool true)) :=
      Frm.setCell (p := fun b => b = B4 ∨ b = B5) (Frm.setCell (p := fun b => b = B4 ∨ b = B5) (Frm.refl _ W2) 0 (.inl (.inl rfl)) _) 0 (.inl (.inr rfl)) _
    have g4 := ((k4.set 0 (.string ⟨(catW f (PCs s)).data⟩)).other 0 (.bool true) hne45).cell 0
    have g5 := ((k5.other 0 (.string ⟨(catW f (PCs s)).data⟩) hne54).set 0 (.bool true)).cell 0
    have hBF : Below w.heap.size w ((W2.setCell ⟨B4, 0, none⟩ (.string ⟨(catW f (PCs s)).data⟩)).setCell ⟨B5, 0, none⟩ (.bool true)) := by
      have e1 : Below w.heap.size w W2 := hB.trans (HB2.out.mono (by have := H3.out; omega))
      exact e1.trans (hF2.below (by rw [show w.heap.size = B3 from H3.out]; have := k4.lt; omega) (fun b hb => by have := H3.out; rcases hb with rfl | rfl <;> omega))
    have hKD : ((W2.setCell ⟨B4, 0, none⟩ (.string ⟨(catW f (PCs s)).data⟩)).setCell ⟨B5, 0, none⟩ (.bool true)).heap[W1.heap.size]? = some (.deferred (some [])) := (hF2.block _ (Array.getElem?_eq_some_iff.1 HD.out).1 (fun h => by rcases h with h | h <;> omega)).trans HD.out
    obtain ⟨W5, hW5⟩ : ∃ X, (W2.setCell ⟨B4, 0, none⟩ (.string ⟨(catW f (PCs s)).data⟩)).setCell ⟨B5, 0, none⟩ (.bool true) = X := ⟨_, rfl⟩
    rw [hW5] at hKD hBF g4 g5 ⊢
    refine ⟨by simp, .inl ⟨_, _, rfl, run_takeDeferred hKD, ?_⟩⟩
    have hc0 := cell_kept g4 (grownBy_putObj' _ W1.heap.size (.deferred none)) (fun r e => by cases e; exact ⟨_, hKD, rfl⟩)
    have hc1 := cell_kept g5 (grownBy_putObj' _ W1.heap.size (.deferred none)) (fun r e => by cases e; exact ⟨_, hKD, rfl⟩)
    refine ⟨.tuple #[.string (catW f (PCs s)), .bool true], ?_, ?_, ?_⟩
    · simp [results, Try.f23, go_sem, hc0, hc1]
    · unfold MeR; rw [if_neg (by rw [HA.out]; decide)]
    · exact hBF.trans (belowK_b (w := w) (Nat.le_refl _) W5 W1.heap.size _ _ (by omega) hKD rfl rfl)
  case stop =>
    rintro c pre T W ⟨rfl, k4, k5, hT, hzW, hB, ha⟩ hWz hWd
    have HA := Lib.hid ha
    have c4 := k4.cell 0
    have c5 := k5.cell 0
    have hK := Lib.hid hWd
    clear ha
    gi_wp2
    refine ⟨by simp, .inl ⟨_, _, rfl, run_takeDeferred hWd, ?_⟩⟩
    have hc0 := cell_kept c4 (grownBy_putObj' _ W1.heap.size (.deferred none)) (fun r e => by cases e; exact ⟨_, hWd, rfl⟩)
    have hc1 := cell_kept c5 (grownBy_putObj' _ W1.heap.size (.deferred none)) (fun r e => by cases e; exact ⟨_, hWd, rfl⟩)
    refine ⟨.tuple #[.string ⟨#[]⟩, .bool false], ?_, ?_, ?_⟩
    · simp [results, Try.f23, go_sem, hc0, hc1]
    · unfold MeR; rw [if_pos HA.out]
    · exact hB.trans (belowK_b (w := w) (Nat.le_refl _) W W1.heap.size _ _ (by omega) hWd rfl rfl)
  case round =>
    rintro pre x rest T W hLx ⟨v, h1, h2, k3, k4, k5, hT, hzW, hB, ha⟩ hTb hWz hrec hdef t1 t2
    simp only [encC, aggC]
    gi_wp2
    obtain ⟨W2, hW2⟩ : ∃ X, W.alloc (.cells #[.bool x.ex, .bool x.q, .string x.t] 26) = X := ⟨_, rfl⟩
    have hB2 : Below W.heap.size W W2 := by rw [← hW2]; exact (Below.refl _ _).alloc (Nat.le_refl _) _
    have kX : Blk W2 W.heap.size #[.bool x.ex, .bool x.q, .string x.t] 26 := by rw [← hW2]; exact Blk.new W _ _
    have z2 : W2.heap.size = W.heap.size + 1 := by rw [← hW2]; simp
    rw [hW2]
    clear hW2
    refine ⟨hB2.block _ (by omega), hB2.block _ (by omega), ⟨hB2.size, fun b hb _ => hB2.block b hb⟩, fun r => ?_⟩
    obtain ⟨W3, hW3⟩ : ∃ X, W2.putObj (W1.heap.size + 1) (.loop r) = X := ⟨_, rfl⟩
    have z3 : W3.heap.size = W.heap.size + 1 := by rw [← hW3, ← z2]; simp
    have hF3 : Frm (fun b => b = W1.heap.size + 1) W W3 := by
      rw [← hW3]
      exact (Frm.of_below hB2).trans (frm_put (p := fun b => b = W1.heap.size + 1) W2 _ rfl) (fun _ _ h => h)
    have kX3 : Blk W3 W.heap.size #[.bool x.ex, .bool x.q, .string x.t] 26 := by
      rw [← hW3]
      exact (World.putObj_heap_other (by omega)).trans kX
    rw [hW3]
    clear hW3 kX hB2 z2 hrec hdef
    have hb3 := h1.frm hF3 (by omega) (fun g hg e => by have := (h2 g hg).1; omega)
    have m3 := k3.frm hF3 (by omega)
    have m4 := k4.frm hF3 (by omega)
    have m5 := k5.frm hF3 (by omega)
    have c3' := m3.cell 0
    have c4' := m4.cell 0
    have f4' := m4.frozen 0
    have c5' := m5.cell 0
    have f5' := m5.frozen 0
    have x0 := kX3.cell 0
    have x1 := kX3.cell 1
    have x2 := kX3.cell 2
    have hBW3 : Below w.heap.size w W3 := hB.trans (hF3.below (by omega) (fun b hb => by omega))
    have HOK2 := Lib.hid (HOK.out pre x rest hLx)
    have hwl : w.heap.size ≤ W3.heap.size := hBW3.size
    have hvlt : ∀ g, v.ownBlock = some g → g < W.heap.size := own_lt h1.2
    have HB3 := Lib.hid hb3
    have H2 := Lib.hid h2
    have HLX := Lib.hid hLx
    have h11 : 1 ≤ 5 - 1 - 1 := by omega
    clear h1 h2 k3 k4 k5 hb3 hLx
    cases hex : x.ex with
    | true =>
      have HA : Hid ((PCs s).any (fun x => x.ex) = true) := Lib.hid (by rw [HLX.out, List.any_append, List.any_cons, hex]; simp)
      rw [hex] at x0
      clear hex
      gi_wp2
      have hF5 : Frm (fun b => b = B4 ∨ b = B5) W3 ((W3.setCell ⟨B4, 0, none⟩ (.string ⟨#[]⟩)).setCell ⟨B5, 0, none⟩ (.bool false)) :=
        Frm.setCell (p := fun b => b = B4 ∨ b = B5) (Frm.setCell (p := fun b => b = B4 ∨ b = B5) (Frm.refl _ W3) 0 (.inl (.inl rfl)) _) 0 (.inl (.inr rfl)) _
      have q4 := (m4.set 0 (.string ⟨#[]⟩)).other 0 (.bool false) (b' := B5) (by omega)
      have q5 := (m5.other 0 (.string ⟨#[]⟩) (b' := B4) (by omega)).set 0 (.bool false)
      refine ⟨hF5.block _ (by omega) (by omega), hF5.block _ (by omega) (by omega), KpT.of_frm hF5 (fun b _ hb => ⟨fun ht => ?_, fun hc => ?_⟩), rfl, q4, q5, hT, ?_, ?_, HA.out⟩
      · have := hT b ht; omega
      · have := (HCG.out b hc).1; omega
      · have := hF5.size; omega
      · exact hBW3.trans (hF5.below hwl (fun b hb => by have := H3.out; omega))
    | false =>
      rw [hex] at x0 kX3
      have hcall := HK.out x W3 HOK2.out.1
      unfold aggC at hcall
      rw [hex] at hcall
      have HCALL := Lib.hid (CallsIn.inRound (W1.heap.size + 1) ((callsIn_wide (n := 5 - 1 - 1 - 1)).2 hcall))
      have HEX := Lib.hid hex
      clear hcall hex
      gi_wp2_with fail
      refine ⟨trivial, (HCALL.out).mono ?_⟩
      rintro en W6 ⟨rfl, hB6⟩
      have hb6 := HB3.out.frm (p := fun _ => False) (Frm.of_below hB6) (fun h => h) (fun _ _ h => h)
      have hws := wstring_own W6 Bb v (Lib.strCells (catW f pre)) (f x) hb6 (by rw [Lib.strCells_length]; have := HOK2.out.2.1; omega) (by have := HOK2.out.2.2; omega)
      have HWS := Lib.hid (CallsIn.inRound (W1.heap.size + 1) ((callsIn_wide (n := 5 - 1 - 1 - 1)).2 hws))
      have hs6 := hB6.size
      have HB6 := Lib.hid hb6
      clear hws hb6
      gi_wp2_with fail
      refine ⟨trivial, (HWS.out).mono ?_⟩
      rintro en W7 ⟨rfl, v', hv7, hF7, hg7⟩
      have hF37 : Frm (fun b => b = Bb ∨ v.ownBlock = some b) W3 W7 := (Frm.of_below (p := fun b => b = Bb ∨ v.ownBlock = some b) hB6).trans hF7 (fun _ _ h => h)
      have hno : ∀ b, b < W1.heap.size + 2 → b ≠ Bb → ¬ (b = Bb ∨ v.ownBlock = some b) := fun b hb hn hh => by
        rcases hh with e | e
        · exact hn e
        · have := (H2.out b e).1; omega
      have n3 := m3.frm hF37 (hno _ (by omega) (by omega))
      have n4 := m4.frm hF37 (hno _ (by omega) (by omega))
      have n5 := m5.frm hF37 (hno _ (by omega) (by omega))
      have g1 := hF37.block (W1.heap.size + 1) (by omega) (hno _ (by omega) (by omega))
      have g2 := hF37.block W1.heap.size (by omega) (hno _ (by omega) (by omega))
      have hII : MeI f k w W1.heap.size B3 B4 B5 Bb (pre ++ [x]) T W7 := by
        refine ⟨v', by rw [catW_snoc]; exact hv7, fun g hg => ?_, n3, n4, n5, hT, by have := hF37.size; omega, ?_, ?_⟩
        · rcases hg7 g hg with e | e
          · exact H2.out g e
          · exact ⟨by omega, fun ht => by have := hTb g ht; omega⟩
        · exact hBW3.trans (hF37.below hwl (fun b hb => by
            have := H3.out
            rcases hb with e | e
            · omega
            · have := (H2.out b e).1; omega))
        · rw [List.any_append, ha]
          simp [HEX.out]
      have HII := Lib.hid hII
      have hKK : KpT (CapC Bd Bt Br mb) T W3 W7 := KpT.of_frm hF37 (fun b _ hb => ⟨fun ht => by
          rcases hb with e | e
          · have := hT b ht; omega
          · exact (H2.out b e).2 ht, fun hc => by
          have h1 := HCG.out b hc
          rcases hb with e | e
          · omega
          · have := (H2.out b e).1; omega⟩)
      have HKK := Lib.hid hKK
      clear hII hKK n3 n4 n5
      gi_wp2
      exact ⟨g1, g2, HKK.out, HII.out⟩
end
end Go.Proofs.Ytiklnlkakhghdaa
namespace Go.Proofs.Ytiklnlkakhghdaa
open Go.RowKit
set_option linter.unusedVariables false

section
variable (w : World)
set_option maxHeartbeats 1000000 in
theorem value_any (s : ByteArray) (hs : s.size ≤ 60000) :
    Calls Try.prog 9 #[.string s] w fun e w' => MeR (fun x => x.t) (PCs s) e ∧ Below w.heap.size w w' := by
  have HM := Lib.hid (meant_any w s hs 24 (fun x => x.t) value1_wrf (enters_of Try.func24 (by kernel_rfl) rfl) (pcOk_t hs))
  go_enter Try.func9, Try.ntmps9
  go_wp2_with fail
  refine (HM.out).mono ?_
  rintro e w1 ⟨hr, hB⟩
  have HR := Lib.hid hr
  unfold MeR at hr
  by_cases ha : (PCs s).any (fun x => x.ex) = true
  · rw [if_pos ha] at hr
    subst hr
    clear ha
    go_wp2
    go_ret2
    exact ⟨HR.out, hB⟩
  · rw [if_neg ha] at hr
    subst hr
    clear ha
    go_wp2
    go_ret2
    exact ⟨HR.out, hB⟩
set_option maxHeartbeats 1000000 in
theorem pattern_any (s : ByteArray) (hs : s.size ≤ 60000) :
    Calls Try.prog 10 #[.string s] w fun e w' => MeR shP (PCs s) e ∧ Below w.heap.size w w' := by
  have HM := Lib.hid (meant_any w s hs 25 shP shielded_wrf (enters_of Try.func25 (by kernel_rfl) rfl) (pcOk_sh hs))
  go_enter Try.func10, Try.ntmps10
  go_wp2_with fail
  refine (HM.out).mono ?_
  rintro e w1 ⟨hr, hB⟩
  have HR := Lib.hid hr
  unfold MeR at hr
  by_cases ha : (PCs s).any (fun x => x.ex) = true
  · rw [if_pos ha] at hr
    subst hr
    clear ha
    go_wp2
    go_ret2
    exact ⟨HR.out, hB⟩
  · rw [if_neg ha] at hr
    subst hr
    clear ha
    go_wp2
    go_ret2
    exact ⟨HR.out, hB⟩
end
end Go.Proofs.Ytiklnlkakhghdaa

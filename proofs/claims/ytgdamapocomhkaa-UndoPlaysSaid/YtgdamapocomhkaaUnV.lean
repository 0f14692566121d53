/- What few and same of the statements of layer 2 (undo) return. Conditions: at most a million steps in a row; the rows lie in memory as such. -/
import Derived.Test.YtgdamapocomhkaaUnQ
import Derived.Test.YtgdamapocomhkaaUnU
namespace Go.Proofs.Ytgdamapocomhkaa
open Go.RowKit Go.Shelf
set_option linter.unusedVariables false

/-- A row of steps, apart from the journal's own blocks. -/
def RowR (W : World) (jb : Nat) (sv v : Value) (zs : List St) : Prop :=
  (v = .slice none 0 0 ∧ zs = []) ∨ ∃ b off cap, v = .slice (some ⟨b, off, none⟩) zs.length cap ∧ zs.length ≤ cap ∧ b ≠ jb ∧ sv.ownBlock ≠ some b ∧ b < W.heap.size ∧ ∀ j, j < zs.length → StepAt W b (off + j * 5) (zs[j]?.getD St.zero)
/-- A row of steps. -/
def RowS (W : World) (v : Value) (zs : List St) : Prop :=
  (v = .slice none 0 0 ∧ zs = []) ∨ ∃ b off cap, v = .slice (some ⟨b, off, none⟩) zs.length cap ∧ b < W.heap.size ∧ ∀ j, j < zs.length → StepAt W b (off + j * 5) (zs[j]?.getD St.zero)
theorem RowR.rowS {W : World} {jb : Nat} {sv v : Value} {zs : List St} (h : RowR W jb sv v zs) : RowS W v zs := by
  rcases h with h | ⟨b, off, cap, h1, h2, h3, h4, h5, h6⟩
  · exact .inl h
  · exact .inr ⟨b, off, cap, h1, h5, h6⟩
theorem RowS.of_owns {W : World} {base n : Nat} {v : Value} {zs : List St} (h : W.ownsRow base 31 5 v n (cellsOf zs)) (hn : zs.length = n) : RowS W v zs := by
  rcases h.2 with ⟨h1, h0⟩ | ⟨g, cap, cur, hv, hb, hg, hnc, hcm, hcs, htake⟩
  · exact .inl ⟨h1, List.eq_nil_of_length_eq_zero (by omega)⟩
  · subst hv
    refine .inr ⟨g, 0, cap, by rw [hn], (Array.getElem?_eq_some_iff.1 hg).1, fun j hj => ?_⟩
    refine stepAt_of_cells fun i u hu => ?_
    have hi : i < 5 := (List.getElem?_eq_some_iff.1 hu).1
    have hc := h.cells (g := g) rfl (j * 5 + i) u (by
      rw [cellsOf_at _ _ _ hj hi]
      rw [List.getElem?_eq_getElem hj] at hu
      exact hu)
    rw [addr_add] at hc
    have e : 0 + j * 5 + i = 0 + (j * 5 + i) := by omega
    rw [e]
    exact hc
theorem RowS.below {W W' : World} {v : Value} {zs : List St} (h : RowS W v zs) (hb : Below W.heap.size W W') : RowS W' v zs := by
  rcases h with h | ⟨b, off, cap, h1, h2, h3⟩
  · exact .inl h
  · exact .inr ⟨b, off, cap, h1, Nat.lt_of_lt_of_le h2 hb.size, fun j hj => (h3 j hj).below hb h2⟩
theorem RowS.form {W : World} {v : Value} {zs : List St} (h : RowS W v zs) : ∃ a cap, v = .slice a zs.length cap ∧ (0 < zs.length → ∃ b off, a = some ⟨b, off, none⟩ ∧ b < W.heap.size ∧ ∀ j, j < zs.length → StepAt W b (off + j * 5) (zs[j]?.getD St.zero)) := by
  rcases h with ⟨rfl, rfl⟩ | ⟨b, off, cap, h1, h2, h3⟩
  · exact ⟨none, 0, rfl, fun h => by simp at h⟩
  · exact ⟨_, cap, h1, fun _ => ⟨b, off, rfl, h2, h3⟩⟩

def SameRel (n : Nat) (w : World) (vi : Value) (wr : World) : Prop := ∃ i : Nat, vi = .int .i64 i ∧ i ≤ n ∧ Below w.heap.size w wr

set_option maxRecDepth 100000 in
set_option maxHeartbeats 2000000 in
theorem same_yes (v1 v2 : Value) (zs : List St) (hlen : zs.length ≤ 1000000) (w : World) (h1 : RowS w v1 zs) (h2 : RowS w v2 zs) :
    Calls Try.prog 13 #[v1, v2] w fun e w' => e = .returned (.bool true) ∧ Below w.heap.size w w' := by
  obtain ⟨a1, c1, rfl, k1⟩ := h1.form
  obtain ⟨a2, c2, rfl, k2⟩ := h2.form
  have K1 := Lib.hid k1
  have K2 := Lib.hid k2
  clear h1 h2 k1 k2
  go_enter Try.func13, Try.ntmps13
  go_wp2
  go_loopw [5] (fun vi wr => SameRel zs.length w vi wr) (fun vi _ => zs.length - (intOf vi).toNat)
  case atStart => exact ⟨0, rfl, Nat.zero_le _, Below.refl _ _⟩
  case round =>
    obtain ⟨i, rfl, hi, hbel⟩ := hrel
    by_cases hlt : i < zs.length
    · obtain ⟨b1, o1, rfl, l1, s1⟩ := K1.out (by omega)
      obtain ⟨b2, o2, rfl, l2, s2⟩ := K2.out (by omega)
      obtain ⟨x, hx⟩ : ∃ x, zs[i]?.getD St.zero = x := ⟨_, rfl⟩
      have t1 := (s1 i hlt).below hbel l1
      have t2 := (s2 i hlt).below hbel l2
      rw [hx] at t1 t2
      obtain ⟨p0, p1, p2, p3, p4⟩ := t1
      obtain ⟨q0, q1, q2, q3, q4⟩ := t2
      have HS1 := Lib.hid s1
      have HS2 := Lib.hid s2
      clear s1 s2 hx
      have hx0 : (0 : Int) ≤ (i : Int) := by omega
      have hx1 : (i : Int) < zs.length := by omega
      go_wp2
      go_quiet (fail)
      go_wp2
      go_roundw
      case rel => exact ⟨i + 1, by push_cast; rfl, by omega, below_drewN hbel _⟩
      case measure => simp [intOf]; omega
    · obtain rfl : i = zs.length := by omega
      go_wp2
      go_ret
      exact ⟨rfl, hbel⟩

theorem done_row {w : World} {jb most : Nat} {js : Value} {dl ul : List St} (hJ : Jn w jb most js (dl ++ ul) dl.length) (hlen : dl.length + ul.length ≤ 1000000) :
    Calls Try.prog 14 #[.pointer (some ⟨jb, 0, none⟩)] w fun e w' => (∃ v, e = .returned v ∧ RowS w' v dl) ∧ Below w.heap.size w w' := by
  refine (done_any jb most js (dl ++ ul) w dl.length hJ (by simpa using hlen)).mono ?_
  rintro e w' ⟨v, rfl, ho, hb⟩
  rw [List.take_left] at ho
  exact ⟨⟨v, rfl, RowS.of_owns ho rfl⟩, hb⟩
theorem undone_row {w : World} {jb most : Nat} {js : Value} {dl ul : List St} (hJ : Jn w jb most js (dl ++ ul) dl.length) (hlen : dl.length + ul.length ≤ 1000000) :
    Calls Try.prog 15 #[.pointer (some ⟨jb, 0, none⟩)] w fun e w' => (∃ v, e = .returned v ∧ RowS w' v ul) ∧ Below w.heap.size w w' := by
  refine (undone_any jb most js (dl ++ ul) w dl.length hJ (by simpa using hlen)).mono ?_
  rintro e w' ⟨v, rfl, ho, hb⟩
  rw [List.drop_left] at ho
  exact ⟨⟨v, rfl, RowS.of_owns ho rfl⟩, hb⟩
theorem RowR.frm {p : Nat → Prop} {W W' : World} {jb : Nat} {sv sv' v : Value} {zs : List St} (h : RowR W jb sv v zs) (hf : Frm p W W') (hp : ∀ k, p k → k = jb ∨ sv.ownBlock = some k ∨ W.heap.size ≤ k) (hs : ∀ k, sv'.ownBlock = some k → sv.ownBlock = some k ∨ W.heap.size ≤ k) : RowR W' jb sv' v zs := by
  rcases h with h | ⟨b, off, cap, h1, h2, h3, h4, h5, h6⟩
  · exact .inl h
  · have hnp : ¬ p b := fun hb => by
      rcases hp b hb with e | e | e
      · exact h3 e
      · exact h4 e
      · omega
    refine .inr ⟨b, off, cap, h1, h2, h3, fun e => ?_, Nat.lt_of_lt_of_le h5 hf.size, fun j hj => (h6 j hj).frm hf h5 hnp⟩
    rcases hs b e with e | e
    · exact h4 e
    · omega

/-- The acts, as they lie: kinds, and steps. -/
def ActRow (w : World) (b off len : Nat) (kv : Nat → Int) (sv : Nat → St) : Prop :=
  b < w.heap.size ∧ ∀ i, i < len → w.cell? ⟨b, off + i * 6, none⟩ = some (.int .i64 (kv i)) ∧ StepAt w b (off + i * 6 + 1) (sv i)
theorem ActRow.below {w w' : World} {b off len : Nat} {kv : Nat → Int} {sv : Nat → St} (h : ActRow w b off len kv sv) (hb : Below w.heap.size w w') : ActRow w' b off len kv sv := by
  obtain ⟨hl, h⟩ := h
  have hz := hb.size
  obtain ⟨hc, _⟩ := bcell hb
  exact ⟨by omega, fun i hi => ⟨(hc _ _ hl).trans (h i hi).1, (h i hi).2.below hb hl⟩⟩

def FewPost (len : Nat) (sv : Nat → St) (e : Ending) : Prop :=
  e = .returned (.bool false) ∨ (e = .returned (.bool true) ∧ len ≤ 40 ∧ ∀ i, i < len → (sv i).del.size ≤ 100 ∧ (sv i).ins.size ≤ 100)
def FewRel (len : Nat) (sv : Nat → St) (w : World) (vi : Value) (wr : World) : Prop := ∃ i : Nat, vi = .int .i64 i ∧ i ≤ len ∧ wr = w ∧ ∀ k, k < i → (sv k).del.size ≤ 100 ∧ (sv k).ins.size ≤ 100

set_option maxRecDepth 100000 in
set_option maxHeartbeats 2000000 in
theorem few_any (kv : Nat → Int) (sv : Nat → St) (A : Option Addr) (len cap : Nat) (w : World)
    (hrow : 0 < len → ∃ b off, A = some ⟨b, off, none⟩ ∧ ActRow w b off len kv sv) (hd : ∀ i, i < len → (sv i).del.size ≤ 140737488351232 ∧ (sv i).ins.size ≤ 140737488351232) :
    Calls Try.prog 7 #[.slice A len cap] w fun e w' => FewPost len sv e ∧ w' = w := by
  by_cases hl : (40 : Int) < len
  · go_enter Try.func7, Try.ntmps7
    go_wp2
    go_ret
    exact ⟨.inl rfl, rfl⟩
  · have HROW := Lib.hid hrow
    have HD := Lib.hid hd
    clear hrow hd
    go_enter Try.func7, Try.ntmps7
    go_wp2
    go_loopw [3] (fun vi wr => FewRel len sv w vi wr) (fun vi _ => len - (intOf vi).toNat)
    case atStart => exact ⟨0, rfl, Nat.zero_le _, rfl, fun k h => by omega⟩
    case round =>
      obtain ⟨i, rfl, hi, rfl, hk⟩ := hrel
      have HK := Lib.hid hk
      clear hk
      by_cases hlt : i < len
      · obtain ⟨b, off, rfl, hr⟩ := HROW.out (by omega)
        obtain ⟨g0, g1, g2, g3, g4, g5⟩ := hr.2 i hlt
        have hbl := hr.1
        have hdd := HD.out i hlt
        clear hr
        have hx : (i : Int) < len := by omega
        by_cases l1 : (100 : Int) < (sv i).del.size
        · go_wp2
          go_ret
          exact ⟨.inl rfl, rfl⟩
        · by_cases l2 : (100 : Int) < (sv i).ins.size
          · go_wp2
            go_ret
            exact ⟨.inl rfl, rfl⟩
          · go_wp2
            go_roundw
            case rel =>
              refine ⟨i + 1, by push_cast; rfl, by omega, rfl, fun k hk => ?_⟩
              by_cases h : k < i
              · exact HK.out k h
              · obtain rfl : k = i := by omega
                omega
            case measure => simp [intOf]; omega
      · obtain rfl : i = len := by omega
        go_wp2
        go_ret
        exact ⟨.inr ⟨rfl, by omega, HK.out⟩, rfl⟩
end Go.Proofs.Ytgdamapocomhkaa

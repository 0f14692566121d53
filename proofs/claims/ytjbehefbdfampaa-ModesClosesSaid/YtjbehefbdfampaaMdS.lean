/- What Show of layer 6 (modes) returns: the modes' letters. Condition: at most a thousand frames, which lie in memory. -/
import Derived.Test.YtjbehefbdfampaaMdL
import Derived.Test.YtjbehefbdfampaaMdF
namespace Go.Proofs.Ytjbehefbdfampaa
open Go.RowKit
set_option linter.unusedVariables false

theorem Bld.below {B : Nat} {x : List Value} {w w' : World} (h : Bld B x w) (hb : Below w.heap.size w w') : Bld B x w' := by
  rcases h with ⟨h0, vv, h1, h2, h3⟩ | ⟨h0, vv, h1, h2, h3⟩
  · exact .inl ⟨h0, vv, (hb.block _ (Array.getElem?_eq_some_iff.1 h1).1).trans h1, own_below h2 hb, h3⟩
  · exact .inr ⟨h0, vv, (hb.block _ (Array.getElem?_eq_some_iff.1 h1).1).trans h1, own_below h2 hb, h3⟩

/-- The modes' letters by their numbers. -/
def lettersB : ByteArray := ⟨#[84, 67, 80, 79, 83, 68, 66, 86, 73, 65, 82, 69, 76, 88, 35]⟩
def showB (m : Int) : UInt8 := if 0 ≤ m ∧ m < 15 then bt lettersB m.toNat else 63
theorem showB_in {k : Nat} (h : k < 15) : showB k = bt lettersB k := by unfold showB; rw [if_pos ⟨by omega, by omega⟩, Int.toNat_natCast]
theorem showB_out {m : Int} (h : m < 0 ∨ 15 ≤ m) : showB m = 63 := by unfold showB; rw [if_neg (by omega)]
/-- The first so many modes as letters. -/
def showA (fv : Nat → Int × Int) (n : Nat) : ByteArray := ⟨((List.range n).map fun i => showB (fv i).1).toArray⟩
theorem showA_size (fv : Nat → Int × Int) (n : Nat) : (showA fv n).size = n := by
  show ((List.range n).map fun i => showB (fv i).1).toArray.size = n
  simp
theorem showA_bt (fv : Nat → Int × Int) {n i : Nat} (h : i < n) : bt (showA fv n) i = showB (fv i).1 := by
  have h1 : i < (showA fv n).size := by rw [showA_size]; exact h
  rw [bt_eq h1, ByteArray.getElem_eq_getElem_data]
  simp [showA]
theorem showA_zero (fv : Nat → Int × Int) : showA fv 0 = ⟨#[]⟩ := rfl
theorem showA_succ (fv : Nat → Int × Int) (n : Nat) : Lib.strCells (showA fv (n + 1)) = Lib.strCells (showA fv n) ++ [.int .u8 (showB (fv n).1).toNat] := by
  unfold Lib.strCells showA
  rw [List.range_succ]
  simp

/-- So many frames lie in a row. -/
def FrAt (w : World) (ao : Option Addr) (len : Nat) (fv : Nat → Int × Int) : Prop :=
  ∀ i, i < len → ∃ b off, ao = some ⟨b, off, none⟩ ∧ b < w.heap.size ∧ w.cell? ⟨b, off + i * 2, none⟩ = some (.int .i64 (fv i).1) ∧ w.cell? ⟨b, off + i * 2 + 1, none⟩ = some (.int .i64 (fv i).2)
theorem FrAt.below {w w' : World} {ao : Option Addr} {len : Nat} {fv : Nat → Int × Int} (h : FrAt w ao len fv) (hb : Below w.heap.size w w') : FrAt w' ao len fv := fun i hi => by
  obtain ⟨b, off, h1, h2, h3, h4⟩ := h i hi
  exact ⟨b, off, h1, Nat.lt_of_lt_of_le h2 hb.size, (hb.cell (p := ⟨b, off + i * 2, none⟩) h2).trans h3, (hb.cell (p := ⟨b, off + i * 2 + 1, none⟩) h2).trans h4⟩
/-- A frame of a list, as two whole numbers. -/
def frV (l : List Fr) (i : Nat) : Int × Int := (((l[i]?.getD (0, 0)).1 : Nat), ((l[i]?.getD (0, 0)).2 : Nat))
theorem Rs.frs {w : World} {b : Nat} {v : Value} {l : List Fr} (h : Rs w b v l) : ∃ g cap, v = .slice (some ⟨g, 0, none⟩) l.length cap ∧ b ≤ g ∧ FrAt w (some ⟨g, 0, none⟩) l.length (frV l) := by
  obtain ⟨g, cap, h1, h2, h3⟩ := h
  refine ⟨g, cap, h1, h2, fun i hi => ⟨g, 0, rfl, h3.lt, ?_⟩⟩
  have hc := h3.cell (List.getElem?_eq_getElem hi)
  unfold frV
  rw [List.getElem?_eq_getElem hi, Nat.zero_add]
  exact hc

def ShRel (B : Nat) (fv : Nat → Int × Int) (len : Nat) (w : World) (v : Value) (wr : World) : Prop :=
  ∃ (i : Nat) (x : ByteArray), v = .int .i64 i ∧ i ≤ len ∧ x = showA fv i ∧ Bld B (Lib.strCells x) wr ∧ Below w.heap.size w wr

set_option maxRecDepth 100000 in
set_option maxHeartbeats 4000000 in
theorem show_any (ao : Option Addr) (len cap : Nat) (fv : Nat → Int × Int) (w : World) (hlen : len ≤ 1000) (hrow : FrAt w ao len fv) :
    Calls Try.prog 22 #[.slice ao len cap] w fun e w' => e = .returned (.string (showA fv len)) ∧ Below w.heap.size w w' := by
  have HROW := Lib.hid hrow
  clear hrow
  go_enter Try.func22, Try.ntmps22
  go_wp2
  go_loopw [5, 8] (fun _ v wr => ShRel w.heap.size fv len w v wr) (fun _ v _ => len - (intOf v).toNat)
  case atStart => exact ⟨0, _, rfl, Nat.zero_le _, rfl, Lib.fresh_isBuilder _ _ _, (Below.refl _ _).alloc (Nat.le_refl _) _⟩
  case round =>
    obtain ⟨i, x, rfl, hi, hx, hbd, hB⟩ := hrel
    have HX := Lib.hid hx
    have hxs : x.size ≤ 1000 := by rw [hx, showA_size]; omega
    clear hx
    by_cases hlt : i < len
    · have hlt2 : (i : Int) < len := by omega
      obtain ⟨b, off, rfl, hb, hc1, hc2⟩ := (HROW.out.below hB) i hlt
      have hnew := showA_succ fv i
      obtain ⟨m, hm⟩ : ∃ m, (fv i).1 = m := ⟨_, rfl⟩
      obtain ⟨f, hf⟩ : ∃ f, (fv i).2 = f := ⟨_, rfl⟩
      rw [hm] at hc1 hnew
      rw [hf] at hc2
      rw [← HX.out] at hnew
      clear hm hf
      have hbd2 := hbd.below (((Below.refl wr.heap.size wr).alloc (Nat.le_refl _) (.cells #[.int .i64 m, .int .i64 f] 41)))
      have hB2 := hB.alloc hB.size (.cells #[.int .i64 m, .int .i64 f] 41)
      by_cases h0 : m < 0 ∨ 15 ≤ m
      · rw [showB_out h0] at hnew
        have HN := Lib.hid hnew
        clear hnew
        have key : (decide (m < 0) = true) ∨ (decide (m < 0) = false ∧ decide (15 ≤ m) = true) := by
          rcases h0 with h | h
          · exact .inl (decide_eq_true_iff.2 h)
          · exact .inr ⟨decide_eq_false_iff_not.2 (by omega), decide_eq_true_iff.2 h⟩
        clear h0
        rcases key with k1 | ⟨k1, k2⟩
        all_goals
          go_wp2_with fail
          refine (bbyte_any w.heap.size _ 63 _ hbd2 (by rw [Lib.strCells_length]; omega) hB2.size).mono ?_
          rintro e w3 ⟨rfl, hbd3, hb3⟩
          go_wp2
          go_roundw
          case rel => exact ⟨i + 1, showA fv (i + 1), by go_num, by omega, rfl, by rw [HN.out]; exact hbd3, hB2.trans hb3⟩
          case measure => simp [intOf]; omega
      · obtain ⟨k, rfl⟩ : ∃ k : Nat, m = k := ⟨m.toNat, by omega⟩
        have hk : k < 15 := by omega
        rw [showB_in hk] at hnew
        have hk2 : (k : Int) < 15 := by omega
        have k1 : decide ((k : Int) < 0) = false := decide_eq_false_iff_not.2 (by omega)
        have k2 : decide (15 ≤ (k : Int)) = false := decide_eq_false_iff_not.2 (by omega)
        have hlt3 : k < lettersB.size := hk
        have hby : (lettersB[k].toNat : Int) = ((bt lettersB k).toNat : Int) := by rw [bt_eq hlt3]
        have HN := Lib.hid hnew
        clear hnew h0
        go_wp2_with fail
        refine (bbyte_any w.heap.size _ _ _ hbd2 (by rw [Lib.strCells_length]; omega) hB2.size).mono ?_
        rintro e w3 ⟨rfl, hbd3, hb3⟩
        go_wp2
        go_roundw
        case rel => exact ⟨i + 1, showA fv (i + 1), by go_num, by omega, rfl, by rw [HN.out, bt_eq hlt3]; exact hbd3, hB2.trans hb3⟩
        case measure => simp [intOf]; omega
    · obtain rfl : i = len := by omega
      go_wp2_with fail
      refine (Try.Builder_String_any w.heap.size w.heap.size x.data.toList _ hbd hB.size).mono ?_
      rintro e w2 ⟨rfl, hb2⟩
      go_wp2
      go_ret
      exact ⟨by rw [← HX.out]; rfl, hB.trans hb2⟩

/-- The text that the document shows. -/
def egB : ByteArray := ⟨#[34, 97, 36, 40, 98, 32, 39, 99]⟩
theorem eg_len : (runK egB egB.size).st.reverse.length = 4 := by decide +kernel
theorem eg_show : showA (frV (runK egB egB.size).st.reverse) 4 = ⟨#[84, 68, 67, 83]⟩ := by decide +kernel
set_option maxHeartbeats 1000000 in
theorem awake_any (w : World) : Calls Try.prog 10 #[] w fun e w' => e = .returned (.bool true) ∧ Below w.heap.size w w' := by
  have hrun := run_any w egB (by decide)
  obtain ⟨l, hl⟩ : ∃ l, (runK egB egB.size).st.reverse = l := ⟨_, rfl⟩
  obtain ⟨fr, hfr⟩ : ∃ fr, (runK egB egB.size).fresh = fr := ⟨_, rfl⟩
  have h1 := eg_len
  have h2 := eg_show
  rw [hl] at h1 h2 hrun
  rw [hfr] at hrun
  clear hl hfr
  have HL := Lib.hid h1
  have HS := Lib.hid h2
  clear h1 h2
  go_enter Try.func10, Try.ntmps10
  go_wp2_with fail
  refine hrun.mono ?_
  rintro e w1 ⟨⟨v, rfl, hR⟩, hB⟩
  obtain ⟨g, cap, rfl, hg, hF⟩ := hR.frs
  rw [HL.out] at hF
  rw [HL.out]
  go_wp2_with fail
  refine (show_any _ 4 cap _ _ (by omega) hF).mono ?_
  rintro e w2 ⟨rfl, hB2⟩
  rw [HS.out]
  go_wp2
  go_ret
  exact ⟨rfl, hB.trans (hB2.mono hB.size)⟩
end Go.Proofs.Ytjbehefbdfampaa

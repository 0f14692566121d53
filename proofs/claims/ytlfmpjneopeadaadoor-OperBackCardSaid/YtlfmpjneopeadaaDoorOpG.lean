/- What the document's own Split of layer 5 (oper) returns: the operators of a text, in a new row; or the place of the first byte that is none. Condition: texts of at most a million bytes. -/
import Derived.RangeFuncBox
import Derived.Maps.AppendAt
import Derived.Laws.AppendOwn
import Derived.Test.YtlfmpjneopeadaaDoorOpE
namespace Go.Proofs.YtlfmpjneopeadaaDoor
open Go.RowKit
set_option linter.unusedVariables false

theorem infoI : (Tryd.prog.info? 3).map (fun i => (i.zero, i.size, i.bytes)) = some (some (.int .i64 0), 1, 8) := by kernel_rfl
def intV (k : Nat) : Value := .int .i64 (k : Int)
def intCells (l : List Nat) : List Value := l.map intV
theorem intCells_snoc (l : List Nat) (k : Nat) : intCells (l ++ [k]) = intCells l ++ [.int .i64 (k : Int)] := by simp [intCells, intV]

theorem refat_eq (s : ByteArray) (a k : Nat) (w : World) (hs : s.size ≤ 1000000) (ha : a ≤ s.size) (h : opN s a = k) :
    Calls Tryd.prog 10 #[.string s, .int .i64 a] w fun e w' => e = .returned (.int .i64 (k : Nat)) ∧ w' = w := by
  rw [← h]; exact refat_any s a w hs ha

/-- What a row of operators that was split off is: all of them, or none and the place of the first byte that is none. -/
def SplitV (s : ByteArray) (base : Nat) (w : World) (v : Value) : Prop :=
  ((spl s 0).2 = -1 ∧ w.ownsRow base 3 1 v (spl s 0).1.length (intCells (spl s 0).1)) ∨ (0 ≤ (spl s 0).2 ∧ v = .slice none 0 0)

def RsRel (s : ByteArray) (w : World) (v4 v5 : Value) (wr : World) : Prop :=
  ∃ (a : Nat) (l : List Nat) (n : Nat) (xs : List Value), v5 = .int .i64 a ∧ a ≤ s.size ∧ n ≤ a ∧ n = l.length ∧ xs = intCells l ∧ spl s 0 = (l ++ (spl s a).1, (spl s a).2) ∧ wr.ownsRow w.heap.size 3 1 v4 n xs ∧ Below w.heap.size w wr

set_option maxRecDepth 100000 in
set_option maxHeartbeats 2000000 in
theorem refsplit_any (s : ByteArray) (w : World) (hs : s.size ≤ 1000000) :
    Calls Tryd.prog 17 #[.string s] w fun e w' => ∃ v, e = .returned (.tuple #[v, .int .i64 (spl s 0).2]) ∧ SplitV s w.heap.size w' v ∧ Below w.heap.size w w' := by
  obtain ⟨i0, hi, hz0, hz1, hz2⟩ := info_parts infoI
  go_enter Tryd.func17, Tryd.ntmps17
  go_wp2
  go_loopw [4, 5] (fun v4 v5 wr => RsRel s w v4 v5 wr) (fun _ v5 _ => s.size - (intOf v5).toNat)
  case atStart => exact ⟨0, [], 0, [], rfl, Nat.zero_le _, Nat.le_refl _, rfl, rfl, by simp, World.ownsRow_nil _ _ _ _, Below.refl _ _⟩
  case round =>
    obtain ⟨a, l, n, xs, rfl, ha, hna, hn, hx, hspl, hrow, hB⟩ := hrel
    have HN := Lib.hid hn
    have HX := Lib.hid hx
    have HS := Lib.hid hspl
    clear hn hx hspl
    by_cases hlt : a < s.size
    · have hlt2 : (a : Int) < s.size := by omega
      obtain ⟨k, hk⟩ : ∃ k, opN s a = k := ⟨_, rfl⟩
      have hra := fun w => refat_eq s a k w hs ha hk
      have HRA := Lib.hid hra
      have hk17 : k ≤ 17 := by rw [← hk]; exact opN_le s a
      clear hra
      by_cases h0 : k = 0
      · subst h0
        by_cases hb : cl s a = 1
        · have hst : spl s a = spl s (a + 1) := spl_blank hlt hk hb
          have hbb : (bt s a).toNat = 32 ∨ ((bt s a).toNat ≠ 32 ∧ (bt s a).toNat = 9) := by
            unfold cl cls at hb
            split at hb
            · omega
            · exfalso; revert hb; repeat' split
              all_goals omega
          have HST := Lib.hid hst
          clear hb hst hk
          rcases hbb with e | ⟨e, e9⟩
          · have t0 : (s[a].toNat : Int) = 32 := by rw [bt_eq hlt] at e; omega
            clear e
            go_wp2_with fail
            refine (HRA.out _).mono ?_
            rintro e w' ⟨rfl, rfl⟩
            go_wp2
            go_roundw
            case rel => exact ⟨a + 1, l, n, xs, by go_num, by omega, by omega, HN.out, HX.out, by rw [HS.out, HST.out], hrow, hB⟩
            case measure => simp [intOf]; omega
          · have t0 : (s[a].toNat : Int) = 9 := by rw [bt_eq hlt] at e9; omega
            clear e e9
            go_wp2_with fail
            refine (HRA.out _).mono ?_
            rintro e w' ⟨rfl, rfl⟩
            go_wp2
            go_roundw
            case rel => exact ⟨a + 1, l, n, xs, by go_num, by omega, by omega, HN.out, HX.out, by rw [HS.out, HST.out], hrow, hB⟩
            case measure => simp [intOf]; omega
        · have hst : spl s a = ([], (a : Int)) := spl_bad hlt hk hb
          have hbb : (bt s a).toNat ≠ 32 ∧ (bt s a).toNat ≠ 9 := by
            constructor <;> intro g <;> refine hb ?_ <;> unfold cl cls <;> rw [if_pos (by omega)]
          obtain ⟨b, hb0⟩ : ∃ b : Int, (s[a].toNat : Int) = b := ⟨_, rfl⟩
          have t1 : ¬ b = 32 := by have := hbb.1; rw [bt_eq hlt] at this; omega
          have t2 : ¬ b = 9 := by have := hbb.2; rw [bt_eq hlt] at this; omega
          have t1' : (b == 32) = false := beq_eq_false_iff_ne.2 t1
          have t2' : (b == 9) = false := beq_eq_false_iff_ne.2 t2
          have HST := Lib.hid hst
          clear hb hst hk hbb
          go_wp2_with fail
          refine (HRA.out _).mono ?_
          rintro e w' ⟨rfl, rfl⟩
          go_wp2
          go_ret2
          have e2 : (spl s 0).2 = (a : Int) := by rw [HS.out, HST.out]
          exact ⟨_, by rw [e2]; rfl, .inr ⟨by rw [e2]; omega, rfl⟩, hB⟩
      · have hp : decide ((0 : Int) < k) = true := decide_eq_true_iff.2 (by omega)
        have hp2 : decide (0 < k) = true := decide_eq_true_iff.2 (by omega)
        obtain ⟨t, ht⟩ : ∃ t, txt k = t := ⟨_, rfl⟩
        have hf := opN_fits (s := s) (a := a) (by rw [hk]; exact h0)
        rw [hk, ht] at hf
        have hf1 := hf.1
        have hts := txt_size_in (k := k) (by rw [← hk]; exact opN_mem (by rw [hk]; exact h0))
        rw [ht] at hts
        have hst := spl_op hlt hk h0
        rw [ht] at hst
        have HST := Lib.hid hst
        have HT := Lib.hid ht
        have HH := Lib.hid h0
        obtain ⟨hts1, hts3⟩ := hts
        clear hk hst ht h0 hf
        go_wp2_with fail
        refine (HRA.out _).mono ?_
        rintro e w' ⟨rfl, rfl⟩
        go_wp2_with (at_builtin; refine wpList_append_own _ rfl _ _ 32 rfl w.heap.size 3 i0 (.int .i64 0) 1 8 Tryd.underlying32 hi hz0 hz1 hz2 rfl (by decide) _ _ _ rfl (hrow.alloc _) ⟨World.heap _ |>.size, 0, none⟩ 1 1 [.int .i64 (k : Int)] rfl rfl (cell_one_new _ _ _) (by simp [Value.oneCell']) (by unfold maxLen; omega) (by omega) (by have := hB.size; simp; omega) ?_; intro v' w1 hown' hgrow _)
        refine (reftext_eq k t HT.out _).mono ?_
        rintro e w2 ⟨rfl, rfl⟩
        go_wp2
        go_roundw
        case rel =>
          refine ⟨a + t.size, l ++ [k], n + 1, _, by go_num, hf1, by omega, by rw [HN.out]; simp, by rw [intCells_snoc, HX.out], ?_, hown', (hB.alloc hB.size _).grown hgrow (by have := hB.size; simp; omega) (own_ge hrow)⟩
          rw [HS.out, HST.out]
          simp
        case measure => simp [intOf]; omega
    · obtain rfl : a = s.size := by omega
      have hst : spl s s.size = ([], -1) := spl_end (Nat.le_refl _)
      have HST := Lib.hid hst
      clear hst
      go_wp2
      go_ret2
      have e2 : spl s 0 = (l, -1) := by rw [HS.out, HST.out]; simp
      refine ⟨_, by rw [e2]; rfl, .inl ⟨by rw [e2], ?_⟩, hB⟩
      rw [e2]
      have h2 := hrow
      rw [HN.out, HX.out] at h2
      exact h2
end Go.Proofs.YtlfmpjneopeadaaDoor

/- The walk of OperTight of layer 5 (oper): the law returns true. Condition: numbers as they come; the program's table lies as start-up lays it. -/
import Derived.Test.YtlfmpjneopeadaaDoorOpG
namespace Go.Proofs.YtlfmpjneopeadaaDoor
open Go.RowKit
set_option linter.unusedVariables false

theorem intCells_at (l : List Nat) (j x : Nat) (h : l[j]? = some x) : (intCells l)[j]? = some (.int .i64 (x : Int)) := by
  unfold intCells
  rw [List.getElem?_map, h]
  rfl
/-- The cells of a row of whole numbers. -/
def IntsAt (w : World) (g : Nat) (l : List Nat) : Prop := ∀ (j x : Nat), l[j]? = some x → w.cell? ⟨g, j, none⟩ = some (.int .i64 (x : Int))
theorem IntsAt.below {w w' : World} {g n : Nat} {l : List Nat} (h : IntsAt w g l) (hg : g < n) (hb : Below n w w') : IntsAt w' g l := fun j x hx =>
  (hb.cell (p := ⟨g, j, none⟩) hg).trans (h j x hx)
theorem own_ints {w : World} {base : Nat} {v : Value} {l : List Nat} (h : w.ownsRow base 3 1 v l.length (intCells l)) :
    (v = .slice none 0 0 ∧ l = []) ∨ ∃ g cap, v = .slice (some ⟨g, 0, none⟩) l.length cap ∧ l.length ≤ cap ∧ g < w.heap.size ∧ IntsAt w g l := by
  rcases h.2 with ⟨e, hl⟩ | ⟨g, cap, cur, e, hb, hg, hc, _, hz, ht⟩
  · exact .inl ⟨e, List.length_eq_zero_iff.1 hl⟩
  · refine .inr ⟨g, cap, e, hc, (Array.getElem?_eq_some_iff.1 hg).1, fun j x hx => ?_⟩
    have hj : j < l.length := (List.getElem?_eq_some_iff.1 hx).1
    rw [cell_of_row w g j cur _ _ hg, ← intCells_at l j x hx, ← ht, List.getElem?_take_of_lt (by omega)]
    simp

theorem tight_eq (A B : Nat) (t : Bool) (h : tightN A B = t) (w : World) (hT : Tx w) :
    Calls Tryd.prog 16 #[.int .i64 A, .int .i64 B] w fun e w' => e = .returned (.bool t) ∧ Drew w w' := by
  have := tight_any A B w hT
  rw [Int.toNat_natCast, Int.toNat_natCast, h] at this
  exact this

set_option maxRecDepth 100000 in
set_option maxHeartbeats 4000000 in
theorem tight_law (a b : Int) (w : World) (hT : Tx w) :
    Calls Tryd.prog 5 #[.int .i64 a, .int .i64 b] w fun e w' => e = .returned (.bool true) ∧ Below w.heap.size w w' := by
  have haw := awake5_any w hT
  have HAW := Lib.hid haw
  have HTX := Lib.hid hT
  clear haw hT
  obtain ⟨x, hx⟩ : ∃ x, txt a.toNat = x := ⟨_, rfl⟩
  obtain ⟨y, hy⟩ : ∃ y, txt b.toNat = y := ⟨_, rfl⟩
  have hx3 : x.size ≤ 3 := by rw [← hx]; exact txt_le _
  have hy3 : y.size ≤ 3 := by rw [← hy]; exact txt_le _
  have hra := fun w => reftext_any a w
  have hrb := fun w => reftext_any b w
  rw [hx] at hra
  rw [hy] at hrb
  have HRA := Lib.hid hra
  have HRB := Lib.hid hrb
  have HX := Lib.hid hx
  have HY := Lib.hid hy
  clear hra hrb hx hy
  by_cases c1 : x.size = 0 ∨ y.size = 0
  · have hf : tightN a.toNat b.toNat = false := by
      rcases c1 with c | c
      · exact tightN_no1 (by rw [HX.out]; exact c)
      · exact tightN_no2 (by rw [HY.out]; exact c)
    have htt := fun w hT => tight_any a b w hT
    rw [hf] at htt
    have HTT := Lib.hid htt
    have hc : (x.toList = [] ∧ x.toList.isEmpty = true) ∨ (¬ x.toList = [] ∧ x.toList.isEmpty = false ∧ y.toList = [] ∧ y.toList.isEmpty = true) := by
      by_cases c : x.size = 0
      · exact .inl ⟨le_yes c, le_iyes c⟩
      · have c' : y.size = 0 := by omega
        exact .inr ⟨le_no c, le_ino c, le_yes c', le_iyes c'⟩
    clear c1 hf htt
    rcases hc with ⟨q1, q2⟩ | ⟨q1, q2, q3, q4⟩
    all_goals
      go_enter Tryd.func5, Tryd.ntmps5
      go_wp2_with fail
      refine HAW.out.mono ?_
      rintro e w1 ⟨rfl, hd1⟩
      go_wp2_with fail
      refine (HRA.out _).mono ?_
      rintro e w2 ⟨rfl, rfl⟩
      go_wp2_with fail
      refine (HRB.out _).mono ?_
      rintro e w2 ⟨rfl, rfl⟩
      go_wp2_with fail
      refine (HTT.out _ (HTX.out.d hd1)).mono ?_
      rintro e w3 ⟨rfl, hd3⟩
      go_wp2
      go_ret
      exact ⟨ret_bool (by simp), (hd1.trans hd3).below⟩
  · have hc1 : x.size ≠ 0 ∧ y.size ≠ 0 := by omega
    have hA : a.toNat ∈ ops := Classical.byContradiction fun g => hc1.1 (by rw [← HX.out]; exact txt_empty.2 g)
    have hB : b.toNat ∈ ops := Classical.byContradiction fun g => hc1.2 (by rw [← HY.out]; exact txt_empty.2 g)
    have q1 := le_no hc1.1
    have q2 := le_ino hc1.1
    have q3 := le_no hc1.2
    have q4 := le_ino hc1.2
    obtain ⟨A, rfl⟩ := Int.eq_ofNat_of_zero_le (a := a) (by have := mem_ops.1 hA; omega)
    obtain ⟨B, rfl⟩ := Int.eq_ofNat_of_zero_le (a := b) (by have := mem_ops.1 hB; omega)
    rw [Int.toNat_natCast] at hA hB
    have hA17 := (mem_ops.1 hA).2
    have hB17 := (mem_ops.1 hB).2
    have hX := HX.out
    have hY := HY.out
    rw [Int.toNat_natCast] at hX hY
    obtain ⟨t, ht⟩ : ∃ t, tightN A B = t := ⟨_, rfl⟩
    have hts := tight_spl hA hB
    rw [ht, hX, hY] at hts
    have htt := fun w hT => tight_eq A B t ht w hT
    have HTT := Lib.hid htt
    obtain ⟨r1, r2, hr⟩ : ∃ r1 r2, spl (x ++ y) 0 = (r1, r2) := ⟨_, _, rfl⟩
    rw [hr] at hts
    have hadd : ¬ x.size + y.size > 9223372036854775807 := by omega
    have hsp := fun w => refsplit_any (x ++ y) w (by simp; omega)
    unfold SplitV at hsp
    rw [hr] at hsp
    have HSP := Lib.hid hsp
    have HTS := Lib.hid hts
    clear c1 hc1 hA hB hX hY ht hts htt hr hsp
    go_enter Tryd.func5, Tryd.ntmps5
    go_wp2_with fail
    refine HAW.out.mono ?_
    rintro e w1 ⟨rfl, hd1⟩
    go_wp2_with fail
    refine (HRA.out _).mono ?_
    rintro e w2 ⟨rfl, rfl⟩
    go_wp2_with fail
    refine (HRB.out _).mono ?_
    rintro e w2 ⟨rfl, rfl⟩
    go_wp2_with fail
    refine (HSP.out _).mono ?_
    rintro e w3 ⟨v, rfl, hv, hb3⟩
    have hT3 : Tx w3 := (HTX.out.d hd1).b hb3
    have HT3 := Lib.hid hT3
    have hbB : Below w.heap.size w w3 := (hd1.below).trans (hb3.mono (by rw [hd1.heap]; exact Nat.le_refl _))
    clear hT3 HAW HSP HRA HRB
    rcases hv with ⟨rfl, hown⟩ | ⟨hr0, rfl⟩
    · rcases own_ints hown with ⟨rfl, rfl⟩ | ⟨g, cap, rfl, hcap, hg, hat⟩
      · have hf : t = false := by rw [HTS.out]; simp
        subst hf
        go_wp2_with fail
        refine (HTT.out _ HT3.out).mono ?_
        rintro e w4 ⟨rfl, hd4⟩
        go_wp2
        go_ret
        exact ⟨ret_bool (by simp), hbB.trans (hd4.below)⟩
      · by_cases h2 : r1.length = 2
        · obtain ⟨p, q, rfl⟩ : ∃ p q, r1 = [p, q] := by
            match r1, h2 with
            | [p, q], _ => exact ⟨p, q, rfl⟩
          have k0 := hat 0 p rfl
          have k1 := hat 1 q rfl
          have htv : t = decide (p = A ∧ q = B) := by rw [HTS.out]; simp
          have HAT := Lib.hid hat
          clear hat h2
          rw [show ([p, q] : List Nat).length = 2 from rfl] at hcap ⊢
          go_wp2_with fail
          refine (HTT.out _ HT3.out).mono ?_
          rintro e w4 ⟨rfl, hd4⟩
          have j0 := (hd4.cell ⟨g, 0, none⟩).trans k0
          have j1 := (hd4.cell ⟨g, 1, none⟩).trans k1
          clear k0 k1
          by_cases e1 : p = A
          · have e1' : ((p : Int) == (A : Int)) = true := beq_iff_eq.2 (by omega)
            by_cases e2 : q = B
            · have e2' : ((q : Int) == (B : Int)) = true := beq_iff_eq.2 (by omega)
              have : t = true := by rw [htv]; simp [e1, e2]
              subst this
              clear htv e1 e2
              go_wp2
              go_ret
              exact ⟨ret_bool (by simp), hbB.trans (hd4.below)⟩
            · have e2' : ((q : Int) == (B : Int)) = false := beq_eq_false_iff_ne.2 (by omega)
              have : t = false := by rw [htv]; simp [e2]
              subst this
              clear htv e1 e2
              go_wp2
              go_ret
              exact ⟨ret_bool (by simp), hbB.trans (hd4.below)⟩
          · have e1' : ((p : Int) == (A : Int)) = false := beq_eq_false_iff_ne.2 (by omega)
            have : t = false := by rw [htv]; simp [e1]
            subst this
            clear htv e1
            go_wp2
            go_ret
            exact ⟨ret_bool (by simp), hbB.trans (hd4.below)⟩
        · have hf : t = false := by
            rw [HTS.out, decide_eq_false_iff_not]
            intro g
            refine h2 ?_
            rw [(Prod.mk.inj g).1]
            rfl
          subst hf
          obtain ⟨n, hn⟩ : ∃ n, r1.length = n := ⟨_, rfl⟩
          rw [hn] at h2 ⊢
          have h2' : ((n : Int) == 2) = false := beq_eq_false_iff_ne.2 (by omega)
          have HH := Lib.hid h2
          clear h2 hn hat hcap
          go_wp2_with fail
          refine (HTT.out _ HT3.out).mono ?_
          rintro e w4 ⟨rfl, hd4⟩
          go_wp2
          go_ret
          exact ⟨ret_bool (by simp), hbB.trans (hd4.below)⟩
    · have hr1 : (r2 == -1) = false := beq_eq_false_iff_ne.2 (by omega)
      have hf : t = false := by
        rw [HTS.out, decide_eq_false_iff_not]
        intro g
        have := (Prod.mk.inj g).2
        omega
      subst hf
      clear hr0
      go_wp2_with fail
      refine (HTT.out _ HT3.out).mono ?_
      rintro e w4 ⟨rfl, hd4⟩
      go_wp2
      go_ret
      exact ⟨ret_bool (by simp), hbB.trans (hd4.below)⟩
end Go.Proofs.YtlfmpjneopeadaaDoor

/- What Of, Redirects, Ends and Tight of layer 5 (oper) and awake return. Condition: texts of at most a million bytes; the program's table lies as start-up lays it. -/
import Derived.Deep.QuietTactic
import Derived.BigQuiet
import Derived.Test.YtlfmpjneopeadaaDoorOpD
namespace Go.Proofs.YtlfmpjneopeadaaDoor
open Go.RowKit
set_option linter.unusedVariables false

theorem opN_out {s : ByteArray} {a : Nat} (h : s.size ≤ a) : opN s a = 0 :=
  opN_none fun k hk h0 hf => by have := hf.1; omega
theorem atO_zero (s : ByteArray) : atO s 0 = opN s 0 := by
  by_cases h : 0 < s.size
  · exact atO_in h
  · rw [opN_out (by omega)]
    unfold atO
    rw [if_neg (by omega)]

theorem le_yes {x : ByteArray} (h : x.size = 0) : x.toList = [] := by
  rw [Go.ByteArray.toList_eq]
  have : x.data.size = 0 := h
  rw [Array.eq_empty_of_size_eq_zero this]
theorem le_no {x : ByteArray} (h : x.size ≠ 0) : ¬ x.toList = [] := by
  rw [Go.ByteArray.toList_eq]
  intro g
  refine h ?_
  show x.data.size = 0
  rw [← Array.length_toList, g]
  rfl
theorem le_iyes {x : ByteArray} (h : x.size = 0) : x.toList.isEmpty = true := by rw [le_yes h]; rfl
theorem le_ino {x : ByteArray} (h : x.size ≠ 0) : x.toList.isEmpty = false := by
  rw [Bool.eq_false_iff]
  intro g
  exact le_no h (List.isEmpty_iff.1 g)
set_option maxHeartbeats 1000000 in
theorem of5_any (s : ByteArray) (w : World) (hs : s.size ≤ 1000000) (hT : Tx w) :
    Calls Tryd.prog 12 #[.string s] w fun e w' => e = .returned (.int .i64 (ofN s : Nat)) ∧ Drew w w' := by
  obtain ⟨o, ho⟩ : ∃ o, atO s 0 = o := ⟨_, rfl⟩
  obtain ⟨z, hz⟩ : ∃ z, (txt o).size = z := ⟨_, rfl⟩
  have hat := at_any s 0 w hs hT
  rw [ho, hz] at hat
  have hN : ofN s = if z = s.size then o else 0 := by unfold ofN; rw [← atO_zero, ho, hz]
  rw [hN]
  have hz3 : z ≤ 3 := by rw [← hz]; exact txt_le o
  have HAT := Lib.hid hat
  clear hat hN hz ho
  by_cases c : z = s.size
  · rw [if_pos c]
    have d1 : ((z : Int) == (s.size : Int)) = true := beq_iff_eq.2 (by omega)
    have d1' : (z == s.size) = true := beq_iff_eq.2 c
    clear c
    go_enter Tryd.func12, Tryd.ntmps12
    go_wp2_with fail
    refine HAT.out.mono ?_
    rintro e w' ⟨rfl, hd⟩
    go_wp2
    go_ret
    exact ⟨rfl, hd⟩
  · rw [if_neg c]
    have d1 : ((z : Int) == (s.size : Int)) = false := beq_eq_false_iff_ne.2 (by omega)
    have d1' : (z == s.size) = false := beq_eq_false_iff_ne.2 c
    clear c
    go_enter Tryd.func12, Tryd.ntmps12
    go_wp2_with fail
    refine HAT.out.mono ?_
    rintro e w' ⟨rfl, hd⟩
    go_wp2
    go_ret
    exact ⟨rfl, hd⟩

set_option maxHeartbeats 1000000 in
theorem redirects_any (op : Int) (w : World) :
    Calls Tryd.prog 14 #[.int .i64 op] w fun e w' => e = .returned (.bool (decide (4 ≤ op ∧ op ≤ 12))) ∧ w' = w := by
  go_enter Tryd.func14, Tryd.ntmps14
  go_wp2
  all_goals
    go_ret
    refine ⟨ret_bool ?_, rfl⟩
    rw [Bool.eq_iff_iff]
    simp
    try omega
set_option maxHeartbeats 1000000 in
theorem ends5_any (op : Int) (w : World) :
    Calls Tryd.prog 15 #[.int .i64 op] w fun e w' => e = .returned (.bool (decide (op = 13 ∨ op = 14))) ∧ w' = w := by
  go_enter Tryd.func15, Tryd.ntmps15
  go_wp2
  all_goals
    go_ret
    refine ⟨ret_bool ?_, rfl⟩
    rw [Bool.eq_iff_iff]
    simp
    try omega

theorem tightN_no1 {a b : Nat} (h : (txt a).size = 0) : tightN a b = false := by
  unfold tightN
  rw [decide_eq_false_iff_not]
  rintro ⟨g, _⟩
  exact txt_empty.1 h g
theorem tightN_no2 {a b : Nat} (h : (txt b).size = 0) : tightN a b = false := by
  unfold tightN
  rw [decide_eq_false_iff_not]
  rintro ⟨_, g, _⟩
  exact txt_empty.1 h g
set_option maxHeartbeats 2000000 in
theorem tight_any (a b : Int) (w : World) (hT : Tx w) :
    Calls Tryd.prog 16 #[.int .i64 a, .int .i64 b] w fun e w' => e = .returned (.bool (tightN a.toNat b.toNat)) ∧ Drew w w' := by
  have ha := fun w hT => text_any a w hT
  have hb := fun w hT => text_any b w hT
  obtain ⟨A, hA⟩ : ∃ A, a.toNat = A := ⟨_, rfl⟩
  obtain ⟨B, hB⟩ : ∃ B, b.toNat = B := ⟨_, rfl⟩
  obtain ⟨x, hx⟩ : ∃ x, txt A = x := ⟨_, rfl⟩
  obtain ⟨y, hy⟩ : ∃ y, txt B = y := ⟨_, rfl⟩
  obtain ⟨t, ht⟩ : ∃ t, tightN A B = t := ⟨_, rfl⟩
  have hx3 : x.size ≤ 3 := by rw [← hx]; exact txt_le A
  have hy3 : y.size ≤ 3 := by rw [← hy]; exact txt_le B
  rw [hA, hx] at ha
  rw [hB, hy] at hb
  rw [hA, hB, ht]
  have HA := Lib.hid ha
  have HB := Lib.hid hb
  have HTT := Lib.hid ht
  have HX := Lib.hid hx
  have HY := Lib.hid hy
  have HAA := Lib.hid hA
  have HTX := Lib.hid hT
  clear ha hb ht hx hy hA hB hT
  by_cases c1 : x.size = 0
  · have d1 := le_yes c1
    have d1' := le_iyes c1
    have hf : t = false := by rw [← HTT.out]; exact tightN_no1 (by rw [HX.out]; exact c1)
    subst hf
    clear c1
    go_enter Tryd.func16, Tryd.ntmps16
    go_wp2_with fail
    refine (HA.out _ HTX.out).mono ?_
    rintro e w' ⟨rfl, rfl⟩
    go_wp2_with fail
    refine (HB.out _ HTX.out).mono ?_
    rintro e w' ⟨rfl, rfl⟩
    go_wp2
    go_ret
    exact ⟨rfl, Drew.refl _⟩
  · have d1 := le_no c1
    have d1' := le_ino c1
    have hA1 : A ∈ ops := by
      refine Classical.byContradiction fun g => c1 ?_
      rw [← HX.out]
      exact txt_empty.2 g
    have HA1 := Lib.hid hA1
    clear c1 hA1
    by_cases c2 : y.size = 0
    · have d2 := le_yes c2
      have d2' := le_iyes c2
      have hf : t = false := by rw [← HTT.out]; exact tightN_no2 (by rw [HY.out]; exact c2)
      subst hf
      clear c2
      go_enter Tryd.func16, Tryd.ntmps16
      go_wp2_with fail
      refine (HA.out _ HTX.out).mono ?_
      rintro e w' ⟨rfl, rfl⟩
      go_wp2_with fail
      refine (HB.out _ HTX.out).mono ?_
      rintro e w' ⟨rfl, rfl⟩
      go_wp2
      go_ret
      exact ⟨rfl, Drew.refl _⟩
    · have d2 := le_no c2
      have d2' := le_ino c2
      have hB1 : B ∈ ops := by
        refine Classical.byContradiction fun g => c2 ?_
        rw [← HY.out]
        exact txt_empty.2 g
      obtain ⟨o, ho⟩ : ∃ o, atO (x ++ y) 0 = o := ⟨_, rfl⟩
      have hat := at_any (x ++ y) 0 w (by simp; omega) HTX.out
      rw [ho] at hat
      have HAT := Lib.hid hat
      have hadd : ¬ x.size + y.size > 9223372036854775807 := by omega
      have hd : ((o : Int) == a) = t := by
        rw [← HTT.out]
        unfold tightN
        rw [HX.out, HY.out, ← atO_zero, ho, Bool.eq_iff_iff, beq_iff_eq, decide_eq_true_iff]
        have := HAA.out
        have := (mem_ops.1 HA1.out).1
        constructor
        · intro h; exact ⟨HA1.out, hB1, by omega⟩
        · rintro ⟨_, _, h⟩; omega
      clear c2 hB1 hat ho
      go_enter Tryd.func16, Tryd.ntmps16
      go_wp2_with fail
      refine (HA.out _ HTX.out).mono ?_
      rintro e w' ⟨rfl, rfl⟩
      go_wp2_with fail
      refine (HB.out _ HTX.out).mono ?_
      rintro e w' ⟨rfl, rfl⟩
      go_wp2_with fail
      refine HAT.out.mono ?_
      rintro e w' ⟨rfl, hdr⟩
      go_wp2
      go_ret
      exact ⟨ret_bool (by first | rfl | exact hd), hdr⟩

set_option maxHeartbeats 1000000 in
theorem awake5_any (w : World) (hT : Tx w) :
    Calls Tryd.prog 8 #[] w fun e w' => e = .returned (.bool true) ∧ Drew w w' := by
  have hat := at_any ⟨#[60, 60, 45, 120]⟩ 0 w (by decide) hT
  rw [show atO ⟨#[60, 60, 45, 120]⟩ 0 = 5 by decide +kernel] at hat
  rw [show (txt 5).size = 3 by decide +kernel] at hat
  have ht := fun w hT => text_any 15 w hT
  rw [show txt (15 : Int).toNat = ⟨#[124]⟩ from rfl] at ht
  have HAT := Lib.hid hat
  have HT := Lib.hid ht
  have HTX := Lib.hid hT
  clear hat ht hT
  go_enter Tryd.func8, Tryd.ntmps8
  go_wp2_with fail
  refine HAT.out.mono ?_
  rintro e w' ⟨rfl, hdr⟩
  go_wp2_with fail
  refine (HT.out _ (HTX.out.d hdr)).mono ?_
  rintro e w' ⟨rfl, rfl⟩
  go_wp2
  go_ret
  exact ⟨rfl, hdr⟩
end Go.Proofs.YtlfmpjneopeadaaDoor

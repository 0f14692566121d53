/- The walks of OperAt and OperNames of layer 5 (oper): the law returns true. Condition: texts as they come; the program's table lies as start-up lays it. -/
import Derived.Test.YtlfmpjneopeadaaDoorOpE
namespace Go.Proofs.YtlfmpjneopeadaaDoor
open Go.RowKit
set_option linter.unusedVariables false

set_option maxRecDepth 100000 in
set_option maxHeartbeats 2000000 in
theorem at_law (s : ByteArray) (a : Int) (w : World) (hT : Tx w) (hmax : s.size ≤ 9223372036854775807) :
    Calls Tryd.prog 3 #[.string s, .int .i64 a] w fun e w' => e = .returned (.bool true) ∧ Below w.heap.size w w' := by
  have haw := awake5_any w hT
  have HAW := Lib.hid haw
  have HTX := Lib.hid hT
  clear haw hT
  by_cases hs : (s.size : Int) ≤ 100
  · have hm : s.size ≤ 1000000 := by omega
    obtain ⟨o, ho⟩ : ∃ o, atO s a = o := ⟨_, rfl⟩
    obtain ⟨t, ht⟩ : ∃ t, txt o = t := ⟨_, rfl⟩
    have hat := fun w hT => at_any s a w hm hT
    rw [ho, ht] at hat
    have hz3 : t.size ≤ 3 := by rw [← ht]; exact txt_le o
    have HAT := Lib.hid hat
    clear hat
    by_cases h : 0 ≤ a ∧ a < s.size
    · obtain ⟨k, rfl⟩ := Int.eq_ofNat_of_zero_le h.1
      have hk : k < s.size := by omega
      have hd : decide ((k : Int) < 0) = false := decide_eq_false_iff_not.2 (by omega)
      have hd2 : decide ((s.size : Int) ≤ k) = false := decide_eq_false_iff_not.2 (by omega)
      have hd3 : decide (s.size ≤ k) = false := decide_eq_false_iff_not.2 (by omega)
      have hra := fun w => refat_any s k w hm (by omega)
      rw [← atO_in hk, ho] at hra
      have HRA := Lib.hid hra
      have HTT := Lib.hid ht
      clear h hra ho ht
      go_enter Tryd.func3, Tryd.ntmps3
      go_wp2_with fail
      refine HAW.out.mono ?_
      rintro e w1 ⟨rfl, hd1⟩
      go_wp2_with fail
      refine (HAT.out _ (HTX.out.d hd1)).mono ?_
      rintro e w2 ⟨rfl, hd2⟩
      go_wp2_with fail
      refine (HRA.out _).mono ?_
      rintro e w3 ⟨rfl, rfl⟩
      go_wp2_with fail
      refine (reftext_eq o t HTT.out _).mono ?_
      rintro e w3 ⟨rfl, rfl⟩
      go_wp2
      go_ret
      exact ⟨ret_bool (by simp), (hd1.trans hd2).below⟩
    · have h0 : o = 0 := by rw [← ho]; unfold atO; rw [if_neg h]
      subst h0
      have ht0 : t.size = 0 := by rw [← ht]; rfl
      clear ho ht
      by_cases g : a < 0
      · have hd : decide (a < 0) = true := by simpa using g
        clear h
        go_enter Tryd.func3, Tryd.ntmps3
        go_wp2_with fail
        refine HAW.out.mono ?_
        rintro e w1 ⟨rfl, hd1⟩
        go_wp2_with fail
        refine (HAT.out _ (HTX.out.d hd1)).mono ?_
        rintro e w2 ⟨rfl, hd2⟩
        go_wp2
        go_ret
        exact ⟨ret_bool (by simp), (hd1.trans hd2).below⟩
      · have h2 : (s.size : Int) ≤ a := by omega
        have hd : decide (a < 0) = false := by simpa using g
        have hd2 : decide ((s.size : Int) ≤ a) = true := by simpa using h2
        clear h
        go_enter Tryd.func3, Tryd.ntmps3
        go_wp2_with fail
        refine HAW.out.mono ?_
        rintro e w1 ⟨rfl, hd1⟩
        go_wp2_with fail
        refine (HAT.out _ (HTX.out.d hd1)).mono ?_
        rintro e w2 ⟨rfl, hd2⟩
        go_wp2
        go_ret
        exact ⟨ret_bool (by simp), (hd1.trans hd2).below⟩
  · have hs2 : (100 : Int) < s.size := by omega
    clear hs
    go_enter Tryd.func3, Tryd.ntmps3
    go_wp2_with fail
    refine HAW.out.mono ?_
    rintro e w1 ⟨rfl, hd1⟩
    go_wp2
    go_ret
    exact ⟨rfl, hd1.below⟩

/-- Which operator's text it is, so far. -/
def NmRel (s : ByteArray) (w : World) (v5 v6 : Value) (wr : World) : Prop :=
  ∃ o : Nat, v6 = .int .i64 o ∧ 1 ≤ o ∧ o ≤ 18 ∧ v5 = .int .i64 (if ofN s < o then (ofN s : Nat) else 0 : Nat) ∧ wr = w
theorem txtI_of {op : Int} (h : (txt op.toNat).size ≠ 0) : 1 ≤ op ∧ op ≤ 17 ∧ ofN (txt op.toNat) = op.toNat := by
  have hm : op.toNat ∈ ops := by
    refine Classical.byContradiction fun g => h (txt_empty.2 g)
  have := mem_ops.1 hm
  exact ⟨by omega, by omega, ofN_txt hm⟩

set_option maxRecDepth 100000 in
set_option maxHeartbeats 4000000 in
theorem names5_law (op : Int) (s : ByteArray) (w : World) (hT : Tx w) (hmax : s.size ≤ 9223372036854775807) :
    Calls Tryd.prog 4 #[.int .i64 op, .string s] w fun e w' => e = .returned (.bool true) ∧ Below w.heap.size w w' := by
  have haw := awake5_any w hT
  have HAW := Lib.hid haw
  have HTX := Lib.hid hT
  clear haw hT
  by_cases hs : (s.size : Int) ≤ 100
  · have hm : s.size ≤ 1000000 := by omega
    obtain ⟨t, ht⟩ : ∃ t, txt op.toNat = t := ⟨_, rfl⟩
    have hz3 : t.size ≤ 3 := by rw [← ht]; exact txt_le _
    have HT := Lib.hid ht
    go_enter Tryd.func4, Tryd.ntmps4
    go_wp2_with fail
    refine HAW.out.mono ?_
    rintro e w1 ⟨rfl, hd1⟩
    have HT1 := Lib.hid (HTX.out.d hd1)
    clear ht
    go_wp2
    go_loopw [5, 6] (fun v5 v6 wr => NmRel s w1 v5 v6 wr) (fun _ v6 _ => 18 - (intOf v6).toNat)
    case atStart =>
      refine ⟨1, rfl, by omega, by omega, ?_, rfl⟩
      by_cases g : ofN s < 1
      · rw [if_pos g]
        have : ofN s = 0 := by omega
        rw [this]; rfl
      · rw [if_neg g]; rfl
    case round =>
      obtain ⟨o, rfl, ho1, ho2, rfl, rfl⟩ := hrel
      have hso := fun (g : ofN s ≠ 0) => (mem_ops.1 (ofN_mem g)).2
      by_cases hlt : o = 18
      · subst hlt
        obtain ⟨v, hv⟩ : ∃ v, ofN s = v := ⟨_, rfl⟩
        have hv17 : v ≤ 17 := by
          by_cases g : ofN s = 0
          · omega
          · have := hso g; omega
        rw [hv, if_pos (show v < 18 by omega)]
        have hof := fun w hT => of5_any s w hm hT
        rw [hv] at hof
        have HOF := Lib.hid hof
        have htx := fun w hT => text_any op w hT
        rw [HT.out] at htx
        have HTE := Lib.hid htx
        have hrt := fun w => reftext_any op w
        rw [HT.out] at hrt
        have HRT := Lib.hid hrt
        have t1 : (t.toList == t.toList) = true := by rw [bs_eqb]; exact decide_eq_true_iff.2 rfl
        clear hof htx hv hso hrt
        have hre : (4 ≤ op ∧ ∀ w, Calls Tryd.prog 14 #[.int .i64 op] w fun e w' => e = .returned (.bool (decide (op ≤ 12))) ∧ w' = w) ∨ (op < 4 ∧ ∀ w, Calls Tryd.prog 14 #[.int .i64 op] w fun e w' => e = .returned (.bool false) ∧ w' = w) := by
          by_cases h4 : 4 ≤ op
          · refine .inl ⟨h4, fun w => ?_⟩
            have := redirects_any op w
            rw [show decide (4 ≤ op ∧ op ≤ 12) = decide (op ≤ 12) by simp [h4]] at this
            exact this
          · refine .inr ⟨by omega, fun w => ?_⟩
            have := redirects_any op w
            rw [show decide (4 ≤ op ∧ op ≤ 12) = false by simp [h4]] at this
            exact this
        have hen : ((op == 13) = true ∧ ∀ w, Calls Tryd.prog 15 #[.int .i64 op] w fun e w' => e = .returned (.bool true) ∧ w' = w) ∨ ((op == 13) = false ∧ ∀ w, Calls Tryd.prog 15 #[.int .i64 op] w fun e w' => e = .returned (.bool (op == 14)) ∧ w' = w) := by
          by_cases h13 : op = 13
          · refine .inl ⟨beq_iff_eq.2 h13, fun w => ?_⟩
            have := ends5_any op w
            rw [show decide (op = 13 ∨ op = 14) = true by simp [h13]] at this
            exact this
          · refine .inr ⟨beq_eq_false_iff_ne.2 h13, fun w => ?_⟩
            have := ends5_any op w
            rw [show decide (op = 13 ∨ op = 14) = (op == 14) by rw [Bool.eq_iff_iff]; simp [h13]] at this
            exact this
        by_cases c : t.size = 0
        · have c1 := le_yes c
          have c2 := le_iyes c
          clear c
          rcases hre with ⟨h4, hr⟩ | ⟨h4, hr⟩ <;> rcases hen with ⟨h13, he⟩ | ⟨h13, he⟩
          all_goals
            have HR := Lib.hid hr
            have HE := Lib.hid he
            clear hr he
            go_wp2_with fail
            refine (HRT.out _).mono ?_
            rintro e w2 ⟨rfl, rfl⟩
            go_wp2_with fail
            refine (HTE.out _ HT1.out).mono ?_
            rintro e w2 ⟨rfl, rfl⟩
            go_wp2_with fail
            refine (HOF.out _ HT1.out).mono ?_
            rintro e w2 ⟨rfl, hd2⟩
            go_wp2_with fail
            refine (HR.out _).mono ?_
            rintro e w3 ⟨rfl, rfl⟩
            go_wp2_with fail
            refine (HE.out _).mono ?_
            rintro e w3 ⟨rfl, rfl⟩
            go_wp2
            go_ret
            exact ⟨ret_bool (by simp), (hd1.trans hd2).below⟩
        · have c1 := le_no c
          have c2 := le_ino c
          obtain ⟨h1, h17, hback⟩ := txtI_of (op := op) (by rw [HT.out]; exact c)
          obtain ⟨o, rfl⟩ := Int.eq_ofNat_of_zero_le (a := op) (by omega)
          have hof2 := fun w hT => of5_any t w (by omega) hT
          rw [show ofN t = o by rw [← HT.out, hback, Int.toNat_natCast]] at hof2
          have HO2 := Lib.hid hof2
          clear c hback hof2
          rcases hre with ⟨h4, hr⟩ | ⟨h4, hr⟩ <;> rcases hen with ⟨h13, he⟩ | ⟨h13, he⟩
          all_goals
            have HR := Lib.hid hr
            have HE := Lib.hid he
            clear hr he
            go_wp2_with fail
            refine (HRT.out _).mono ?_
            rintro e w2 ⟨rfl, rfl⟩
            go_wp2_with fail
            refine (HO2.out _ HT1.out).mono ?_
            rintro e w4 ⟨rfl, hd4⟩
            go_wp2_with fail
            refine (HTE.out _ (HT1.out.d hd4)).mono ?_
            rintro e w2 ⟨rfl, rfl⟩
            go_wp2_with fail
            refine (HOF.out _ (HT1.out.d hd4)).mono ?_
            rintro e w2 ⟨rfl, hd2⟩
            go_wp2_with fail
            refine (HR.out _).mono ?_
            rintro e w3 ⟨rfl, rfl⟩
            go_wp2_with fail
            refine (HE.out _).mono ?_
            rintro e w3 ⟨rfl, rfl⟩
            go_wp2
            go_ret
            exact ⟨ret_bool (by simp), ((hd1.trans hd4).trans hd2).below⟩
      · have ho17 : (o : Int) ≤ 17 := by omega
        have ho17' : o ≤ 17 := by omega
        obtain ⟨x, hx⟩ : ∃ x, txt o = x := ⟨_, rfl⟩
        have hfe := ofN_eq (s := s) (k := o) (mem_ops.2 ⟨ho1, ho17'⟩)
        rw [hx] at hfe
        obtain ⟨v, hv⟩ : ∃ v, ofN s = v := ⟨_, rfl⟩
        rw [hv] at hfe
        have HX := Lib.hid hx
        have HV := Lib.hid hv
        clear hx hso hlt hv
        obtain ⟨u, hu⟩ : ∃ u : Nat, (if ofN s < o then ofN s else 0) = u := ⟨_, rfl⟩
        rw [hu]
        have HU := Lib.hid hu
        clear hu
        by_cases e : x = s
        · have ev : v = o := hfe.1 e
          have t1 : (x.toList == s.toList) = true := by rw [bs_eqb]; exact decide_eq_true_iff.2 e
          have EV := Lib.hid ev
          clear hfe e ev
          go_wp2_with fail
          refine (reftext_eq o x HX.out _).mono ?_
          rintro e w2 ⟨rfl, rfl⟩
          go_wp2
          go_roundw
          case rel =>
            refine ⟨o + 1, by go_num, by omega, by omega, ?_, rfl⟩
            rw [HV.out, EV.out, if_pos (by omega)]
          case measure => simp [intOf]; omega
        · have ev : v ≠ o := fun h => e (hfe.2 h)
          have t1 : (x.toList == s.toList) = false := by rw [bs_eqb]; exact decide_eq_false_iff_not.2 e
          have EV := Lib.hid ev
          clear hfe e ev
          go_wp2_with fail
          refine (reftext_eq o x HX.out _).mono ?_
          rintro e w2 ⟨rfl, rfl⟩
          go_wp2
          go_roundw
          case rel =>
            refine ⟨o + 1, by go_num, by omega, by omega, ?_, rfl⟩
            rw [← HU.out, HV.out]
            have := EV.out
            by_cases g : v < o
            · rw [if_pos g, if_pos (by omega)]
            · rw [if_neg g, if_neg (by omega)]
          case measure => simp [intOf]; omega
  · have hs2 : (100 : Int) < s.size := by omega
    clear hs
    go_enter Tryd.func4, Tryd.ntmps4
    go_wp2_with fail
    refine HAW.out.mono ?_
    rintro e w1 ⟨rfl, hd1⟩
    go_wp2
    go_ret
    exact ⟨rfl, hd1.below⟩
end Go.Proofs.YtlfmpjneopeadaaDoor

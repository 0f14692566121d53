/- The walk of OperBack of layer 5 (oper): the law returns true. Condition: the numbers lie in a row of memory; the program's table lies as start-up lays it. -/
import Derived.Test.YtlfmpjneopeadaaDoorOpN
namespace Go.Proofs.YtlfmpjneopeadaaDoor
open Go.RowKit
set_option linter.unusedVariables false

theorem quiet_of_drew {P : Program} {f : FuncId} {args : Array Value} {w : World} {n : Nat} {v : Value}
    (h : Calls P f args (w.drewN n) fun e w' => e = .returned v ∧ Drew (w.drewN n) w') : Calls P f args (w.drewN n) fun e w'' => e = .returned v ∧ ∃ m, w'' = w.drewN m :=
  h.mono fun _ _ ⟨he, q, hm⟩ => ⟨he, n + q, by rw [hm]; simp [World.drewN, Nat.add_assoc]⟩

theorem nsA_mem {av : Nat → Int} {len : Nat} (h : AllOps av len) : ∀ x ∈ nsA av len, x ∈ ops := fun x hx => by
  unfold nsA at hx
  obtain ⟨j, hj, rfl⟩ := List.mem_map.1 hx
  exact h j (List.mem_range.1 hj)
theorem nsA_at (av : Nat → Int) {len i : Nat} (h : i < len) : (nsA av len)[i]? = some (av i).toNat := by
  unfold nsA
  rw [List.getElem?_map, List.getElem?_range h]
  rfl

/-- The first loop: what is to be written, so far. -/
def L1Rel (av : Nat → Int) (len : Nat) (w : World) (v5 v6 : Value) (wr : World) : Prop :=
  ∃ (i : Nat) (x : ByteArray), v6 = .int .i64 i ∧ v5 = .string x ∧ i ≤ len ∧ AllOps av i ∧ x = wrA av i ∧ Below w.heap.size w wr
/-- The second loop. -/
def L2Rel (len : Nat) (w : World) (v : Value) (wr : World) : Prop := ∃ i : Nat, v = .int .i64 i ∧ i ≤ len ∧ Below w.heap.size w wr

set_option maxRecDepth 100000 in
set_option maxHeartbeats 8000000 in
theorem back_law (ao : Option Addr) (len cap : Nat) (av : Nat → Int) (w : World) (hrow : len ≤ 30 → RowZ w ao len av) (hT : Tx w) (hmax : len ≤ 9223372036854775807) :
    Calls Tryd.prog 7 #[.slice ao len cap] w fun e w' => e = .returned (.bool true) ∧ Below w.heap.size w w' := by
  have haw := awake5_any w hT
  have HAW := Lib.hid haw
  have HTX := Lib.hid hT
  clear haw hT
  by_cases hl : len ≤ 30
  · have HROW := Lib.hid (hrow hl)
    have hl2 : (len : Int) ≤ 30 := by omega
    clear hrow
    go_enter Tryd.func7, Tryd.ntmps7
    go_wp2_with fail
    refine HAW.out.mono ?_
    rintro e w0 ⟨rfl, hd0⟩
    have hT0 : Tx w0 := HTX.out.d hd0
    have hb0 : Below w.heap.size w w0 := hd0.below
    have hr0 : RowZ w0 ao len av := HROW.out.below hb0
    clear hd0
    go_wp2_with fail
    refine (write_any ao len cap av _ hl hr0 hT0).mono ?_
    rintro e w1 ⟨s, c, rfl, hwa, hb1⟩
    have hbB : Below w.heap.size w w1 := hb0.trans (hb1.mono hb0.size)
    have HWA := Lib.hid hwa
    clear hT0 hb0 hr0 hb1 hwa
    go_wp2
    go_loopw [5, 6] (fun v5 v6 wr => L1Rel av len w v5 v6 wr) (fun _ v _ => len - (intOf v).toNat)
    case atStart => exact ⟨0, _, rfl, rfl, Nat.zero_le _, fun i hi => absurd hi (by omega), rfl, hbB⟩
    case round =>
      obtain ⟨i, x, rfl, rfl, hi, hall, hx, hB⟩ := hrel
      have HX := Lib.hid hx
      have HALL := Lib.hid hall
      have hxs : x.size ≤ 120 := by rw [hx]; have := wrA_size av i; omega
      have hTr : Tx _ := HTX.out.b hB
      have HTR := Lib.hid hTr
      clear hx hall hTr
      by_cases hlt : i < len
      · have hlt2 : (i : Int) < len := by omega
        obtain ⟨b, off, rfl, hb, hcell⟩ := (HROW.out.below hB) i hlt
        obtain ⟨z, hz⟩ : ∃ z, av i = z := ⟨_, rfl⟩
        rw [hz] at hcell
        obtain ⟨t, ht⟩ : ∃ t, txt z.toNat = t := ⟨_, rfl⟩
        have htx := fun w' => reftext_any z w'
        rw [ht] at htx
        have HTXT := Lib.hid htx
        have hts : t.size ≤ 3 := by rw [← ht]; exact txt_le _
        have HZ := Lib.hid hz
        have HT := Lib.hid ht
        clear hz htx ht
        by_cases c1 : t.size = 0
        · have q1 := le_yes c1
          have q2 := le_iyes c1
          have hbad : ¬ AllOps av len := fun h => by
            have := h i hlt
            rw [HZ.out] at this
            exact txt_empty.1 (by rw [HT.out]; exact c1) this
          obtain ⟨rfl, rfl⟩ : s = ⟨#[]⟩ ∧ c = 8 := by
            rcases HWA.out with ⟨h, _⟩ | ⟨_, h⟩
            · exact absurd h hbad
            · exact h
          clear c1
          go_wp2_with fail
          refine (HTXT.out _).mono ?_
          rintro e w2 ⟨rfl, rfl⟩
          go_wp2
          go_ret
          exact ⟨ret_bool (by first | rfl | simp), hB⟩
        · have q1 := le_no c1
          have q2 := le_ino c1
          have hmem : z.toNat ∈ ops := Classical.byContradiction fun g => c1 (by rw [← HT.out]; exact txt_empty.2 g)
          have hall2 : AllOps av (i + 1) := fun k hk => by
            by_cases g : k = i
            · rw [g, HZ.out]; exact hmem
            · exact HALL.out k (by omega)
          have HA2 := Lib.hid hall2
          clear c1 hmem hall2
          by_cases h0 : i = 0
          · subst h0
            have hx0 : x = ⟨#[]⟩ := HX.out
            have hnew : wrA av 1 = x ++ t := by rw [wrA_one, HZ.out, HT.out, hx0, none_app]
            have HN := Lib.hid hnew
            have hadd : ¬ x.size + t.size > 9223372036854775807 := by omega
            clear hx0 hnew
            simp only [Nat.add_zero] at hcell
            go_wp2_with fail
            refine (HTXT.out _).mono ?_
            rintro e w2 ⟨rfl, rfl⟩
            go_wp2
            go_quiet (fail)
            go_wp2
            go_roundw
            case rel => exact ⟨1, _, rfl, rfl, by omega, HA2.out, by rw [HN.out], below_drewN hB _⟩
            case measure => simp [intOf]; omega
          · obtain ⟨j, rfl⟩ : ∃ j, i = j + 1 := ⟨i - 1, by omega⟩
            obtain ⟨b', off', e', hb', hcell'⟩ := (HROW.out.below hB) j (by omega)
            cases e'
            obtain ⟨y, hy⟩ : ∃ y, av j = y := ⟨_, rfl⟩
            rw [hy] at hcell'
            obtain ⟨tt, htt⟩ : ∃ tt, tightN y.toNat z.toNat = tt := ⟨_, rfl⟩
            have hti := fun w' (hT : Tx w') => tight_any y z w' hT
            rw [htt] at hti
            have HTI := Lib.hid hti
            have hnew := wrA_next av j
            rw [hy, HZ.out, htt, HT.out, ← HX.out] at hnew
            obtain ⟨m, hm⟩ : ∃ m, m = j + 1 := ⟨_, rfl⟩
            rw [← hm] at hcell hlt2 ⊢
            have p1 : decide ((0 : Int) < m) = true := decide_eq_true_iff.2 (by omega)
            have p2 : decide (0 < m) = true := decide_eq_true_iff.2 (by omega)
            have e4 : IntKind.i64.wrap ((m : Int) - 1) = (j : Int) := by rw [IntWalk.i64_in _ (by omega)]; omega
            have HN := Lib.hid hnew
            have HM := Lib.hid hm
            have hjl : j < len := by omega
            have hjl2 : (j : Int) < len := by omega
            have hml : m < len := by omega
            clear hti htt hnew hy hm h0 hi hlt
            cases tt
            · have hadd0 : ¬ x.size + (⟨#[32]⟩ : ByteArray).size > 9223372036854775807 := by rw [size_one]; omega
              go_wp2_with fail
              refine (HTXT.out _).mono ?_
              rintro e w2 ⟨rfl, rfl⟩
              go_wp2
              go_quiet ((go_at_call 16; exact quiet_of_drew (HTI.out _ (HTR.out.d ⟨_, rfl⟩))))
              have hb4 := below_drewN hB nq
              go_wp2
              go_roundw
              case rel =>
                refine ⟨m + 1, _, by go_num, rfl, by omega, by rw [HM.out]; exact HA2.out, ?_, hb4⟩
                rw [HM.out, HN.out]
                rfl
              case measure => simp [intOf]; omega
            · have hadd : ¬ x.size + t.size > 9223372036854775807 := by omega
              go_wp2_with fail
              refine (HTXT.out _).mono ?_
              rintro e w2 ⟨rfl, rfl⟩
              go_wp2
              go_quiet ((go_at_call 16; exact quiet_of_drew (HTI.out _ (HTR.out.d ⟨_, rfl⟩))))
              have hb4 := below_drewN hB nq
              go_wp2
              go_roundw
              case rel =>
                refine ⟨m + 1, _, by go_num, rfl, by omega, by rw [HM.out]; exact HA2.out, ?_, hb4⟩
                rw [HM.out, HN.out]
                simp [app_none]
              case measure => simp [intOf]; omega
      · obtain rfl : i = len := by omega
        obtain ⟨hs, rfl⟩ : s = x ∧ c = 0 := by
          rcases HWA.out with ⟨_, h1, h2⟩ | ⟨h, _⟩
          · exact ⟨h1.trans HX.out.symm, h2⟩
          · exact absurd HALL.out h
        subst hs
        have hsp : spl s 0 = (nsA av i, -1) := by rw [HX.out]; exact spl_back _ (nsA_mem HALL.out)
        have HSP := Lib.hid hsp
        have t1 : (s.toList == s.toList) = true := by rw [bs_eqb]; exact decide_eq_true_iff.2 rfl
        clear hsp
        go_wp2_with fail
        refine (split_any s (by omega) _ HTR.out).mono ?_
        rintro e w3 ⟨v, a3, c3, rfl, hsa, hb3⟩
        have hB3 := hB.trans (hb3.mono hB.size)
        unfold SplitA at hsa
        rw [HSP.out] at hsa
        rcases hsa with ⟨_, hown, rfl, rfl⟩ | ⟨h, _⟩
        · obtain ⟨ao1, cap1, rfl, hcap1, hat1⟩ := row_form hown
          rw [show (nsA av i, (-1 : Int)).1 = nsA av i from rfl, nsA_length] at hcap1 ⊢
          have hat : ∀ j, j < i → ∃ g, ao1 = some ⟨g, 0, none⟩ ∧ g < w3.heap.size ∧ w3.cell? ⟨g, j, none⟩ = some (.int .i64 (av j)) := fun j hj => by
            obtain ⟨g, h1, h2, h3⟩ := hat1 j _ (nsA_at av hj)
            have h4 := (mem_ops.1 (HALL.out j hj)).1
            exact ⟨g, h1, h2, by rw [h3]; congr 2; omega⟩
          have HAT := Lib.hid hat
          have hr3 := HROW.out.below hB3
          have HR3 := Lib.hid hr3
          clear hat1 hat hown hb3 hr3 hlt
          go_wp2
          go_loopw [11] (fun v wr => L2Rel i w3 v wr) (fun v _ => i - (intOf v).toNat)
          case atStart => exact ⟨0, rfl, Nat.zero_le _, Below.refl _ _⟩
          case round =>
            obtain ⟨j, rfl, hj, hbr⟩ := hrel
            by_cases hlt : j < i
            · have hlt2 : (j : Int) < i := by omega
              obtain ⟨g, rfl, hg, k1⟩ := HAT.out j hlt
              obtain ⟨b, off, rfl, hb, k2⟩ := HR3.out j hlt
              have m1 := (hbr.cell (p := ⟨g, j, none⟩) hg).trans k1
              have m2 := (hbr.cell (p := ⟨b, off + j, none⟩) hb).trans k2
              clear k1 k2
              go_wp2
              go_quiet (fail)
              go_wp2
              go_roundw
              case rel => exact ⟨j + 1, by go_num, by omega, below_drewN hbr _⟩
              case measure => simp [intOf]; omega
            · obtain rfl : j = i := by omega
              go_wp2
              go_ret
              exact ⟨ret_bool (by first | rfl | simp), hB3.trans (hbr.mono hB3.size)⟩
        · exact absurd (show (0 : Int) ≤ -1 from h) (by decide)
  · have hl2 : (30 : Int) < len := by omega
    clear hrow hl
    go_enter Tryd.func7, Tryd.ntmps7
    go_wp2_with fail
    refine HAW.out.mono ?_
    rintro e w1 ⟨rfl, hd1⟩
    go_wp2
    go_ret
    exact ⟨rfl, hd1.below⟩
end Go.Proofs.YtlfmpjneopeadaaDoor

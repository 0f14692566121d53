/- What Name of layer 12 (rules), and the law's awake, return. Condition: the program's table of names, and the one of operators, lie as start-up lays them. -/
import Derived.Test.YtmjckjbdkffkoaaDoorRuAf
namespace Go.Proofs.YtmjckjbdkffkoaaDoor
open Go.RowKit
set_option linter.unusedVariables false

def nmL : List ByteArray := [⟨#[]⟩, ⟨#[112, 114, 111, 103, 114, 97, 109]⟩, ⟨#[108, 105, 115, 116]⟩, ⟨#[97, 110, 100, 45, 111, 114]⟩, ⟨#[112, 105, 112, 101]⟩, ⟨#[115, 105, 109, 112, 108, 101]⟩, ⟨#[97, 115, 115, 105, 103, 110]⟩, ⟨#[119, 111, 114, 100]⟩, ⟨#[114, 101, 100, 105, 114, 101, 99, 116]⟩, ⟨#[98, 114, 97, 99, 101]⟩, ⟨#[115, 117, 98, 115, 104, 101, 108, 108]⟩, ⟨#[105, 102]⟩, ⟨#[108, 111, 111, 112]⟩, ⟨#[102, 111, 114]⟩, ⟨#[99, 97, 115, 101]⟩, ⟨#[105, 116, 101, 109]⟩, ⟨#[102, 117, 110, 99, 116, 105, 111, 110]⟩, ⟨#[101, 114, 114, 111, 114]⟩, ⟨#[109, 105, 115, 115, 105, 110, 103]⟩]
def nmS (i : Nat) : ByteArray := nmL.getD i ⟨#[]⟩
/-- The program's table of names lies as start-up lays it. -/
def Nm (w : World) : Prop := 0 < w.heap.size ∧ ∀ i, i < 19 → w.cell? ⟨0, i, none⟩ = some (.string (nmS i))
theorem Nm.b {w w' : World} (h : Nm w) (hb : Below w.heap.size w w') : Nm w' :=
  ⟨Nat.lt_of_lt_of_le h.1 hb.size, fun i hi => (hb.cell (p := ⟨0, i, none⟩) h.1).trans (h.2 i hi)⟩
/-- What a kind's name is. -/
def nmI (k : Int) : ByteArray := if 0 ≤ k ∧ k < 19 then nmS k.toNat else ⟨#[]⟩
section
variable (w : World)
set_option maxHeartbeats 1000000 in
theorem rname_any (k : Int) (hN : Nm w) :
    Calls Tryd.prog 31 #[.int .i64 k] w fun e w' => e = .returned (.string (nmI k)) ∧ w' = w := by
  by_cases h : 0 ≤ k ∧ k < 19
  · have hn : nmI k = nmS k.toNat := if_pos h
    rw [hn]
    clear hn
    obtain ⟨j, rfl⟩ := Int.eq_ofNat_of_zero_le h.1
    have hk : (j : Int) < 19 := h.2
    have hc := hN.2 j (by omega)
    rw [Int.toNat_natCast]
    obtain ⟨t, ht⟩ : ∃ t, nmS j = t := ⟨_, rfl⟩
    rw [ht] at hc ⊢
    have hd : decide ((j : Int) < 0) = false := by simp
    have hd2 : decide (19 ≤ (j : Int)) = false := by simp; omega
    clear h ht hN
    go_enter Tryd.func31, Tryd.ntmps31
    go_wp2
    go_ret
    exact ⟨rfl, rfl⟩
  · have hn : nmI k = ⟨#[]⟩ := if_neg h
    rw [hn]
    clear hn hN
    by_cases g : k < 0
    · have hd : decide (k < 0) = true := by simpa using g
      clear h
      go_enter Tryd.func31, Tryd.ntmps31
      go_wp2
      go_ret
      exact ⟨rfl, rfl⟩
    · have h2 : 19 ≤ k := by omega
      have hd : decide (k < 0) = false := by simpa using g
      have hd2 : decide (19 ≤ k) = true := by simpa using h2
      clear h
      go_enter Tryd.func31, Tryd.ntmps31
      go_wp2
      go_ret
      exact ⟨rfl, rfl⟩
def awT (i : Nat) : ByteArray := if i = 0 then ⟨#[108, 115]⟩ else ⟨#[45, 108]⟩
set_option maxRecDepth 100000 in
set_option maxHeartbeats 2000000 in
theorem awake_any (hN : Nm w) (hT : Tx w) :
    Calls Tryd.prog 16 #[] w fun e w' => e = .returned (.bool true) ∧ Below w.heap.size w w' := by
  have kS := Blk.new w #[.string ⟨#[108, 115]⟩, .string ⟨#[45, 108]⟩] 9
  have hB1 : Below w.heap.size w (w.alloc (.cells #[.string ⟨#[108, 115]⟩, .string ⟨#[45, 108]⟩] 9)) := (Below.refl _ _).alloc (Nat.le_refl _) _
  have hlt := kS.lt
  have hsr : SRow (w.alloc (.cells #[.string ⟨#[108, 115]⟩, .string ⟨#[45, 108]⟩] 9)) (some ⟨w.heap.size, 0, none⟩) 2 awT := fun i hi => by
    rcases (by omega : i = 0 ∨ i = 1) with rfl | rfl
    · exact ⟨_, _, rfl, hlt, kS.cell 0⟩
    · exact ⟨_, _, rfl, hlt, kS.cell 1⟩
  have hw := words_any _ _ 2 2 awT hsr (by omega)
  have HW := Lib.hid hw
  have HB1 := Lib.hid hB1
  have HN := Lib.hid hN
  have HT := Lib.hid hT
  clear kS hB1 hlt hsr hw hN hT
  go_enter Tryd.func16, Tryd.ntmps16
  go_wp2_with fail
  refine HW.out.mono ?_
  rintro e w2 ⟨oa, oc, rfl, hl, hb2⟩
  have HB2 := Lib.hid (HB1.out.trans (hb2.mono HB1.out.size))
  have HL := Lib.hid hl
  clear hl hb2 HB1 HW
  go_wp2_with fail
  refine (simple_any w2 2 (by omega)).mono ?_
  rintro e w3 ⟨ob, oc2, rfl, hr, hb3⟩
  have HB3 := Lib.hid (HB2.out.trans (hb3.mono HB2.out.size))
  have HR := Lib.hid (rright_smp w3 oa oc (lfl (wrdL awT 2)) ob 2 oc2 awT (HL.out.below hb3) (fun i hi => wrdL_at hi) hr (HT.out.b HB3.out) (by omega) (fun i hi => by unfold awT; split <;> exact Nat.le_of_ble_eq_true rfl))
  clear hr hb3 HB2 HL
  have e1 : (decide (0 < 2) && (!resB (awT 0) && decide (assignN (awT 0) = 0))) = true := by decide +kernel
  rw [e1] at HR
  clear e1
  go_wp2_with fail
  refine HR.out.mono ?_
  rintro e w4 ⟨rfl, hb4⟩
  have HB4 := Lib.hid (HB3.out.trans (hb4.mono HB3.out.size))
  have HNM := Lib.hid (rname_any w4 3 (HN.out.b HB4.out))
  clear hb4 HB3 HR
  have e2 : nmI 3 = ⟨#[97, 110, 100, 45, 111, 114]⟩ := rfl
  rw [e2] at HNM
  clear e2
  go_wp2_with fail
  refine HNM.out.mono ?_
  rintro e w5 ⟨rfl, rfl⟩
  go_wp2
  go_ret
  exact ⟨rfl, HB4.out⟩
end
end Go.Proofs.YtmjckjbdkffkoaaDoor

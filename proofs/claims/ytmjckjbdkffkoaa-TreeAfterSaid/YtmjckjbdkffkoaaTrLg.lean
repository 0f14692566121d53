/- What layer 11's statement TreeAfter does. No condition but that the nodes can be read. -/
import Derived.Test.YtmjckjbdkffkoaaTrB
import Derived.Test.YtmjckjbdkffkoaaTrX
import Derived.Test.YtmjckjbdkffkoaaTrAf
namespace Go.Proofs.Ytmjckjbdkffkoaa
open Go.RowKit
set_option linter.unusedVariables false

def AfO (w : World) (len : Nat) (v4 : Value) (wr : World) : Prop := Below w.heap.size w wr ∧ ∃ i : Nat, v4 = .int .i64 (i : Int) ∧ i ≤ len
section
variable (w : World)
set_option maxRecDepth 100000 in
set_option maxHeartbeats 8000000 in
theorem treeAfter_law (ao : Option Addr) (len cap : Nat) (nv : Nat → Nd) (hrow : NRow w ao len nv) :
    Calls Try.prog 3 #[.slice ao len cap] w fun e w' => e = .returned (.bool true) ∧ Below w.heap.size w w' := by
  have HROW := Lib.hid hrow
  clear hrow
  go_enter Try.func3, Try.ntmps3
  go_wp2_with fail
  refine (awake_any _).mono ?_
  rintro e w0 ⟨rfl, hB0⟩
  have HR0 := Lib.hid (HROW.out.below hB0)
  have HRI := Lib.hid (right_any w0 ao len cap nv (fun _ => HR0.out))
  have HB0 := Lib.hid hB0
  clear hB0
  go_wp2_with fail
  refine HRI.out.mono ?_
  rintro e w1 ⟨⟨x, rfl, hx⟩, hb1⟩
  have HB1 := Lib.hid (HB0.out.trans (hb1.mono HB0.out.size))
  have HR1 := Lib.hid (HR0.out.below hb1)
  have HX := Lib.hid hx
  clear hx hb1
  cases x
  · go_wp2
    go_ret
    exact ⟨rfl, HB1.out⟩
  · have hrt := HX.out.1 (by trivial)
    have hl40 := hrt.1
    have HSP := Lib.hid hrt.2.sp
    have hpos := hrt.2.pos
    clear hrt
    have HAF := Lib.hid (after_any w1 ao len cap nv HR1.out HSP.out (by omega) (ups_len HSP.out))
    go_wp2_with fail
    refine HAF.out.mono ?_
    rintro e w2 ⟨v, rfl, hown, hb2⟩
    obtain ⟨oa, oc, rfl, hrd⟩ := owns_rdo hown
    have HR2 := Lib.hid (HR1.out.below hb2)
    have HB2 := Lib.hid (HB1.out.trans (hb2.mono HB1.out.size))
    have HRD := Lib.hid hrd
    clear hrd hown hb2
    go_wp2
    go_loopw [4] (fun v4 wr => AfO w2 len v4 wr) (fun v _ => len - (intOf v).toNat)
    case atStart => exact ⟨Below.refl _ _, 0, rfl, Nat.zero_le _⟩
    case round =>
      obtain ⟨hwr, i, rfl, hi⟩ := hrel
      by_cases hlt : (i : Int) < (len : Int)
      · have hlt' : i < len := by omega
        have hll := HRD.out.len
        obtain ⟨b, hb⟩ : ∃ b, (ups nv len)[i]? = some b := ⟨_, List.getElem?_eq_getElem (by omega)⟩
        have hbn : b < len := ups_lt HSP.out b (List.mem_of_getElem? hb)
        have hrd := HRD.out.below hwr
        obtain ⟨ob, rfl, hobw, cb⟩ := hrd.cells i b hb
        have p0 : (0 : Int) ≤ (i : Int) := by omega
        have s1 : ¬ (b : Int) < 0 := by omega
        have s1' : decide ((b : Int) < 0) = false := by simp
        have s2' : decide (len ≤ b) = false := by simp; omega
        have HWR := Lib.hid hwr
        have HB := Lib.hid hb
        have HLL := Lib.hid hll
        clear hwr hb hrd hll
        go_wp2
        go_loopw [5] (fun v5 wx => AfO w2 i v5 wx) (fun v _ => i - (intOf v).toNat)
        case atStart => exact ⟨HWR.out, 0, rfl, Nat.zero_le _⟩
        case round =>
          obtain ⟨hwx, k, rfl, hk⟩ := hrel
          by_cases hkt : (k : Int) < (i : Int)
          · have hkt' : k < i := by omega
            obtain ⟨a, ha⟩ : ∃ a, (ups nv len)[k]? = some a := ⟨_, List.getElem?_eq_getElem (by have := HLL.out; omega)⟩
            have han : a < len := ups_lt HSP.out a (List.mem_of_getElem? ha)
            have hbf := ups_bf HSP.out hkt' ha HB.out
            have hrdx := HRD.out.below hwx
            obtain ⟨ob', e1, _, ca⟩ := hrdx.cells k a ha
            obtain rfl : ob = ob' := by simpa using e1
            obtain ⟨ob', e1', _, cb'⟩ := hrdx.cells i b HB.out
            obtain rfl : ob = ob' := by simpa using e1'
            have hnx := HR2.out.below hwx
            obtain ⟨nb, noff, rfl, hnw, a0, a1, a2, a3⟩ := hnx a han
            obtain ⟨nb', noff', hno, _, b0, b1, b2, b3⟩ := hnx b hbn
            obtain ⟨rfl, rfl⟩ : nb = nb' ∧ noff = noff' := by simpa using hno
            obtain ⟨pa, hpa⟩ : ∃ x, (nv a).u = x := ⟨_, rfl⟩
            obtain ⟨pb, hpb⟩ : ∃ x, (nv b).u = x := ⟨_, rfl⟩
            rw [hpa] at a3
            rw [hpb] at b3
            obtain ⟨hne, hab, hsi⟩ := hbf
            rw [hpa, hpb] at hsi
            have HAQ := Lib.hid (fun W (hW : Below w2.heap.size w2 W) => above_any W (some ⟨nb, noff, none⟩) len cap len nv (HR2.out.below hW) HSP.out (Nat.le_refl _) (a : Int) b hbn false (by
              constructor
              · intro h; cases h
              · rintro ⟨y', h1, h2⟩
                obtain rfl : y' = a := by omega
                exact absurd h2 hab) (by omega))
            have q0 : (0 : Int) ≤ (k : Int) := by omega
            have q1 : (k : Int) < (len : Int) := by omega
            have q2 : (0 : Int) ≤ (a : Int) := by omega
            have q3 : (a : Int) < (len : Int) := by omega
            have q4 : (0 : Int) ≤ (b : Int) := by omega
            have q5 : (b : Int) < (len : Int) := by omega
            have hne1 : ((a : Int) == (b : Int)) = false := by simp; omega
            have hne2 : ¬ (a : Int) = (b : Int) := by omega
            have hne3 : ¬ a = b := hne
            have HWX := Lib.hid hwx
            have HSI := Lib.hid hsi
            clear hwx hrdx hnx ha a0 a1 a2 b0 b1 b2 hpa hpb hne hab hsi e1 e1' hno hnw cb
            by_cases hu : pa = pb
            · have hle : ¬ b < a := fun h => HSI.out ⟨hu, h⟩
              have HU := Lib.hid hu
              have hu1 : (pa == pb) = true := by simp; exact hu
              have hle1 : decide (b < a) = false := by simp; omega
              have hle2 : ¬ (b : Int) < (a : Int) := by omega
              clear hu
              go_wp2_with fail
              go_quiet ((go_at_call 7; exact Calls.quiet_of_same (HAQ.out _ (by first | exact HWX.out | exact below_drewN HWX.out _ | exact HWX.out.drew))))
              go_wp2
              go_roundw
              case rel => exact ⟨by first | exact below_drewN HWX.out _ | exact HWX.out, k + 1, by go_num, by omega⟩
              case measure => simp [intOf]; omega
            · have hu1 : (pa == pb) = false := by simp; exact hu
              go_wp2_with fail
              go_quiet ((go_at_call 7; exact Calls.quiet_of_same (HAQ.out _ (by first | exact HWX.out | exact below_drewN HWX.out _ | exact HWX.out.drew))))
              go_wp2
              go_roundw
              case rel => exact ⟨by first | exact below_drewN HWX.out _ | exact HWX.out, k + 1, by go_num, by omega⟩
              case measure => simp [intOf]; omega
          · obtain rfl : k = i := by omega
            have HWX := Lib.hid hwx
            clear hwx
            go_wp2
            go_roundw
            case rel => exact ⟨HWX.out, k + 1, by go_num, by omega⟩
            case measure => simp [intOf]; omega
      · go_wp2
        go_ret
        exact ⟨rfl, HB2.out.trans (hwr.mono HB2.out.size)⟩
end
end Go.Proofs.Ytmjckjbdkffkoaa

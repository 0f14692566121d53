/- What First of layer 12 (rules) returns: the first node that doesn't fit, of a row of nodes whose Ups are those of a tree. Condition: of each node it is known what fits returns. -/
import Derived.Test.YtmjckjbdkffkoaaDoorRuK
import Derived.Test.YtmjckjbdkffkoaaDoorRuV
import Derived.WalkMore
namespace Go.Proofs.YtmjckjbdkffkoaaDoor
open Go.RowKit
set_option linter.unusedVariables false

/-- The first number, of d of them from a on, that isn't ok; -1: there is none. -/
def fstB (ok : Nat → Bool) : Nat → Nat → Int
  | 0, _ => -1
  | d + 1, a => if ok a then fstB ok d (a + 1) else (a : Int)
theorem fstB_ok {ok : Nat → Bool} : ∀ {d a : Nat}, (∀ i, a ≤ i → i < a + d → ok i = true) → fstB ok d a = -1
  | 0, _, _ => rfl
  | d + 1, a, h => by
    unfold fstB
    rw [if_pos (h a (Nat.le_refl _) (by omega))]
    exact fstB_ok (fun i h1 h2 => h i (by omega) (by omega))
theorem fstB_not {ok : Nat → Bool} : ∀ {d a j : Nat}, a ≤ j → j < a + d → ok j = false → 0 ≤ fstB ok d a
  | 0, a, j, h1, h2, _ => by omega
  | d + 1, a, j, h1, h2, h3 => by
    unfold fstB
    by_cases h : ok a = true
    · rw [if_pos h]
      have : j ≠ a := fun e => by rw [e, h] at h3; cases h3
      exact fstB_not (j := j) (by omega) (by omega) h3
    · rw [if_neg h]
      omega
def FsR (ok : Nat → Bool) (W0 : World) (n : Nat) (v5 v12 : Value) (wr : World) : Prop :=
  ∃ i : Nat, i ≤ n ∧ v12 = .int .i64 (i : Int) ∧ v5 = .int .i64 (-1) ∧ fstB ok n 0 = fstB ok (n - i) i ∧ Below W0.heap.size W0 wr
section
variable (w : World)
set_option maxRecDepth 100000 in
set_option maxHeartbeats 4000000 in
theorem first_any (la : Option Addr) (ln lc : Nat) (lv : Nat → Lf) (ao : Option Addr) (n cap : Nat) (nv : Nat → Nd) (hl : LfRow w la ln lv) (hrow : NRow w ao n nv) (hs : Sp nv n) (h0 : 0 < n) (hn : n ≤ 10000) (hln : ln ≤ 10000) (hls : ∀ i, i < ln → (lv i).s.size ≤ 1000000) (tx : Tx w) (ok : Nat → Bool)
    (hfit : ∀ W i ka kn kc, i < n → Below w.heap.size w W → kn = (kidK nv n (i : Int) 1).length → VwOk W ⟨la, ln, lc, ao, n, cap, i, ka, kn, kc⟩ lv nv (kidK nv n (i : Int) 1) → Calls Tryd.prog 46 #[.agg #[.slice la ln lc, .slice ao n cap, .int .i64 (i : Int), .slice ka kn kc]] W fun r w' => r = .returned (.bool (ok i)) ∧ Below W.heap.size W w') :
    Calls Tryd.prog 24 #[.slice la ln lc, .slice ao n cap] w fun r w' => r = .returned (.int .i64 (fstB ok n 0)) ∧ Below w.heap.size w w' := by
  have HFA := Lib.hid (fun W (hW : Below w.heap.size w W) => (family_any W ao n cap nv (hrow.below hW) hs h0 hn).mono (fun e w' (h : ∃ eb xb : Nat, _) => (by
    obtain ⟨eb, xb, h1, h2, h3, h4⟩ := h
    exact ⟨eb, xb, h1, ⟨h2, h3⟩, h4⟩ : ∃ eb xb : Nat, e = .returned (.agg #[.slice (some ⟨eb, 0, none⟩) n n, .slice (some ⟨xb, 0, none⟩) n n]) ∧ (RdO w' (some ⟨eb, 0, none⟩) n (rg n (eldF nv n 1)) ∧ RdO w' (some ⟨xb, 0, none⟩) n (rg n (nxtF nv n 1))) ∧ Below W.heap.size W w')))
  have HVW := Lib.hid (fun W (hW : Below w.heap.size w W) i ka kn kc (hi : i < n) (hk : RdO W ka kn (kidK nv n (i : Int) 1)) => (⟨hl.below hW, hrow.below hW, hk, tx.b hW, hln, hn, hls, hi, fun k hk => ((kidK_mem _ _ rfl).1 hk).2.1⟩ : VwOk W ⟨la, ln, lc, ao, n, cap, i, ka, kn, kc⟩ lv nv (kidK nv n (i : Int) 1)))
  have HFT := Lib.hid hfit
  clear hl hrow hs tx hls hfit
  go_enter Tryd.func24, Tryd.ntmps24
  go_upto_region 1 with fail
  go_step3
  go_step
  go_cut [5, 6] from 5 to 10 (fun v5 v6 wx => ∃ eb xb fb : Nat, v5 = .int .i64 (-1) ∧ v6 = .pointer (some ⟨fb, 0, none⟩) ∧ Blk wx fb #[.slice (some ⟨eb, 0, none⟩) n n, .slice (some ⟨xb, 0, none⟩) n n] 80 ∧ RdO wx (some ⟨eb, 0, none⟩) n (rg n (eldF nv n 1)) ∧ RdO wx (some ⟨xb, 0, none⟩) n (rg n (nxtF nv n 1)) ∧ Below w.heap.size w wx)
  case first =>
    go_wp2_with fail
    refine (HFA.out _ (Below.refl _ _)).mono ?_
    rintro e w' ⟨eb, xb, rfl, hEX, hb'⟩
    have kF := Blk.new w' #[.slice (some ⟨eb, 0, none⟩) n n, .slice (some ⟨xb, 0, none⟩) n n] 80
    have HEX := Lib.hid hEX
    have HB' := Lib.hid hb'
    have HKF := Lib.hid kF
    clear hEX hb' kF
    go_wp2_with fail
    go_meet
    case rel =>
      have ba : Below w'.heap.size w' (w'.alloc (.cells #[.slice (some ⟨eb, 0, none⟩) n n, .slice (some ⟨xb, 0, none⟩) n n] 80)) := (Below.refl _ _).alloc (Nat.le_refl _) _
      exact ⟨eb, xb, _, rfl, rfl, HKF.out, HEX.out.1.below ba, HEX.out.2.below ba, HB'.out.trans (ba.mono HB'.out.size)⟩
  case rest =>
    obtain ⟨eb, xb, fb, rfl, rfl, hF, hE, hX, hB⟩ := hcut
    have HF := Lib.hid hF
    have HE := Lib.hid hE
    have HX := Lib.hid hX
    have HB := Lib.hid hB
    clear hF hE hX hB
    generalize wc = W1 at *
    go_wp2
    go_step3
    go_wp2
    go_loopw [5, 12] (fun v5 v12 wr => FsR ok W1 n v5 v12 wr) (fun _ v12 _ => n - (intOf v12).toNat)
    case atStart => exact ⟨0, by omega, rfl, rfl, rfl, Below.refl _ _⟩
    case round =>
      obtain ⟨i, hi, rfl, rfl, hfs, hbr⟩ := hrel
      by_cases hlt : i < n
      · have hp : (i : Int) < (n : Int) := by omega
        have f0 := (HF.out.below hbr).cell 0
        have f1 := (HF.out.below hbr).cell 1
        simp only [List.getElem?_toArray, List.getElem?_cons_zero, List.getElem?_cons_succ] at f0 f1
        have HBR := Lib.hid hbr
        have HFS := Lib.hid hfs
        clear hbr hfs
        go_wp2_with fail
        refine (fkids_any wr eb xb n nv (HE.out.below HBR.out) (HX.out.below HBR.out) hn i hlt).mono ?_
        rintro e w2 ⟨kv, rfl, hO, hb2⟩
        obtain ⟨ka, kc, rfl, hK⟩ := owns_rdo hO
        have hbw := HB.out.trans ((HBR.out.trans (hb2.mono HBR.out.size)).mono HB.out.size)
        have HFI := Lib.hid (HFT.out w2 i ka _ kc hlt hbw rfl (HVW.out w2 hbw i ka _ kc hlt hK))
        have HB2 := Lib.hid (HBR.out.trans (hb2.mono HBR.out.size))
        clear hO hK hbw hb2
        obtain ⟨kn, hkn⟩ : ∃ kn, (kidK nv n (i : Int) 1).length = kn := ⟨_, rfl⟩
        rw [hkn] at HFI ⊢
        clear hkn
        go_wp2_with fail
        refine HFI.out.mono ?_
        rintro e w3 ⟨rfl, hb3⟩
        have HB3 := Lib.hid (HB2.out.trans (hb3.mono HB2.out.size))
        have e1 : IntKind.i64.wrap ((i : Int) + 1) = ((i + 1 : Nat) : Int) := (IntWalk.i64_in _ (by omega)).trans (by omega)
        cases hok : ok i
        · go_wp2
          rw [Exit.noGoto_ret]
          go_ret
          refine ⟨?_, HB.out.trans (HB3.out.mono HB.out.size)⟩
          rw [HFS.out, show n - i = n - i - 1 + 1 from by omega, fstB, if_neg (by rw [hok]; exact Bool.false_ne_true)]
          rfl
        · go_wp2
          refine ⟨⟨i + 1, by omega, by rw [show ((i + 1 : Nat) : Int) = (i : Int) + 1 from by omega], rfl, ?_, HB3.out⟩, by simp [intOf]; omega⟩
          rw [HFS.out, show n - i = n - (i + 1) + 1 from by omega, fstB, if_pos hok]
      · have hp : ¬ (i : Int) < (n : Int) := by omega
        obtain rfl : i = n := by omega
        have HBR := Lib.hid hbr
        have HFS := Lib.hid hfs
        clear hbr hfs
        go_wp2
        go_ret
        refine ⟨?_, HB.out.trans (HBR.out.mono HB.out.size)⟩
        rw [HFS.out, Nat.sub_self]
        rfl
end
end Go.Proofs.YtmjckjbdkffkoaaDoor

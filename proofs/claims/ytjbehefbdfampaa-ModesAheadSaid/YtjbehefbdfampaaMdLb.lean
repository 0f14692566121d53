/- What layer 6's statement ModesAhead does. No condition but that a text's length fits an int. -/
import Derived.Test.YtjbehefbdfampaaMdLa
import Derived.Deep.CutRange
import Derived.Deep.DeepCutAuto
namespace Go.Proofs.Ytjbehefbdfampaa
open Go.RowKit
set_option linter.unusedVariables false

theorem runK_take (s : ByteArray) {i : Nat} (hi : i ≤ s.size) : runK (s.extract 0 i) (s.extract 0 i).size = runK s i := by
  have hz : (s.extract 0 i).size = i := by simp; omega
  rw [hz]
  refine runG_congr fun j hj => ?_
  unfold by8
  rw [bt_extract s 0 i j hi (by omega), Nat.zero_add]

set_option maxRecDepth 100000 in
set_option maxHeartbeats 8000000 in
theorem ahead_law (s : ByteArray) (w : World) (hz : s.size ≤ 9223372036854775807) :
    Calls Try.prog 4 #[.string s] w fun e w' => e = .returned (.bool true) ∧ Below w.heap.size w w' := by
  by_cases hbig : 60 < s.size
  · have t1 : decide ((60 : Int) < s.size) = true := decide_eq_true_iff.2 (by omega)
    go_enter Try.func4, Try.ntmps4
    go_wp2_with fail
    refine (awake_any _).mono ?_
    rintro e w1 ⟨rfl, hb1⟩
    go_wp2
    go_ret
    exact ⟨rfl, hb1⟩
  · have t1 : decide ((60 : Int) < s.size) = false := decide_eq_false_iff_not.2 (by omega)
    have hs60 : s.size ≤ 60 := by omega
    go_enter Try.func4, Try.ntmps4
    go_wp2_with fail
    refine (awake_any _).mono ?_
    rintro e w1 ⟨rfl, hb1⟩
    have hs1 := hb1.size
    go_wp2_with fail
    refine (new_any w1).mono ?_
    rintro e w2 ⟨rfl, hM2, hb2⟩
    have hBw : Below w.heap.size w w2 := hb1.trans (hb2.mono hs1)
    obtain ⟨mb, hmb⟩ : ∃ mb, w1.heap.size + 1 = mb := ⟨_, rfl⟩
    rw [hmb] at hM2 ⊢
    have hmbw : w.heap.size ≤ mb := by omega
    have hg1 : w.heap.size ≤ w1.heap.size := hs1
    clear t1 hmb
    go_wp2
    go_loopw [4, 5] (fun v _ wr => ∃ i : Nat, v = .int .i64 i ∧ i ≤ s.size + 1 ∧ (i ≤ s.size → ∃ g cap, Mc wr mb g cap (runK s i) i ∧ w.heap.size ≤ g) ∧ Below w.heap.size w wr) (fun v _ _ => s.size + 1 - (intOf v).toNat)
    case atStart => exact ⟨0, rfl, by omega, fun _ => ⟨_, _, hM2, hg1⟩, hBw⟩
    case round =>
      obtain ⟨i, rfl, hi, hMi, hB⟩ := hrel
      clear hM2 hBw hb1 hb2 hg1
      by_cases hle : i ≤ s.size
      · obtain ⟨g, cap, hM, hg⟩ := hMi hle
        have hle2 : (i : Int) ≤ s.size := by omega
        have q0 : (0 : Int) ≤ (i : Int) := by omega
        clear hMi
        have hI := runK_inv s i
        have hlen := runK_len s i
        have hne := hI.ne
        have hgood := good_all hI.good
        have hsucc := runK_succ s i
        have href := fun W => refrun_any W (s.extract 0 i) (by simp; omega)
        simp only [runK_take s hle] at href
        obtain ⟨x, hx⟩ : ∃ x, runK s i = x := ⟨_, rfl⟩
        rw [hx] at hM hI hlen hne hgood hsucc
        simp only [hx] at href
        have hb8 := by8_lt s i
        obtain ⟨b, hb⟩ : ∃ b, by8 s i = b := ⟨_, rfl⟩
        rw [hb] at hsucc hb8
        have HI := Lib.hid hI
        have HG := Lib.hid hgood
        have HS := Lib.hid hsucc
        have HBy := Lib.hid hb
        clear hx hI hgood hsucc hb
        go_upto_region 12 with (go_at_call 12; refine (href _).mono ?_; rintro e w3 ⟨S, gr, n, capr, rfl, hR, hb3, hgr⟩)
        have hB3 : Below w.heap.size w w3 := hB.trans (hb3.mono hB.size)
        have hM3 := hM.frm (Frm.of_below (p := fun _ => False) hb3) (fun h => h) (fun h => h)
        have hbox := Blk.new w3 #[.string S, .slice (some ⟨gr, 0, none⟩) n capr, .bool x.fresh] 28
        have hB4 := hB3.alloc hB3.size (.cells #[.string S, .slice (some ⟨gr, 0, none⟩) n capr, .bool x.fresh] 28)
        have hM4 := hM3.frm (Frm.of_below (p := fun _ => False) ((Below.refl w3.heap.size w3).alloc (Nat.le_refl _) (.cells #[.string S, .slice (some ⟨gr, 0, none⟩) n capr, .bool x.fresh] 28))) (fun h => h) (fun h => h)
        have hR4 := hR.below ((Below.refl w3.heap.size w3).alloc (Nat.le_refl _) (.cells #[.string S, .slice (some ⟨gr, 0, none⟩) n capr, .bool x.fresh] 28))
        generalize w3.alloc (.cells #[.string S, .slice (some ⟨gr, 0, none⟩) n capr, .bool x.fresh] 28) = w4 at hbox hB4 hM4 hR4 ⊢
        generalize w3.heap.size = bx at hbox ⊢
        clear hM3 hB3 hb3 hR hM hB hgr
        have b0 : w4.cell? ⟨bx, 0, none⟩ = some (.string S) := hbox.cell 0
        have b1 : w4.cell? ⟨bx, 1, none⟩ = some (.slice (some ⟨gr, 0, none⟩) n capr) := hbox.cell 1
        have b2 : w4.cell? ⟨bx, 2, none⟩ = some (.bool x.fresh) := hbox.cell 2
        have hxf : (x.fresh != x.fresh) = false := by simp
        go_region_with (first
          | (go_at_call 15; refine (frames_any mb g cap i _ x (hM4.frm (Frm.of_below (p := fun _ => False) (Below.refl _ _).drew) (fun h => h) (fun h => h)) hne (by omega)).mono ?_; rintro e w5 ⟨⟨v, rfl, hRs⟩, hb5⟩; obtain ⟨gl, capl, rfl, hgl, hF⟩ := hRs.st; have hbox5 := hbox.drew.below hb5; have c0 := hbox5.cell 0; have c1 := hbox5.cell 1; have c2 := hbox5.cell 2; simp at c0 c1 c2)
          | (go_at_call 13; refine (same_any _ x.st HG.out gl capl hF S gr n capr x.fresh ((hR4.below (Below.refl _ _).drew).below hb5) (by omega)).mono ?_; rintro e w6 ⟨rfl, hb6⟩; have hbox6 := hbox5.below hb6; have d0 := hbox6.cell 0; have d1 := hbox6.cell 1; have d2 := hbox6.cell 2; simp at d0 d1 d2)
          | (go_at_call 16; refine (fresh_any mb g cap i _ x (((hM4.frm (Frm.of_below (p := fun _ => False) (Below.refl _ _).drew) (fun h => h) (fun h => h)).frm (Frm.of_below (p := fun _ => False) hb5) (fun h => h) (fun h => h)).frm (Frm.of_below (p := fun _ => False) hb6) (fun h => h) (fun h => h))).mono ?_; rintro e w7 ⟨rfl, rfl⟩))
        all_goals
          have hM6 := ((hM4.frm (Frm.of_below (p := fun _ => False) (Below.refl _ _).drew) (fun h => h) (fun h => h)).frm (Frm.of_below (p := fun _ => False) hb5) (fun h => h) (fun h => h)).frm (Frm.of_below (p := fun _ => False) hb6) (fun h => h) (fun h => h)
          have hB6 : Below w.heap.size w w7 := (hB4.drew.trans (hb5.mono hB4.size)).trans (hb6.mono (Nat.le_trans hB4.size hb5.size))
          clear c0 c1 c2 d0 d1 d2
          by_cases hlt : i < s.size
          · have hlt2 : (i : Int) < s.size := by omega
            have hby : (s[i].toNat : Int) = (b : Nat) := by rw [← HBy.out]; unfold by8; rw [bt_eq hlt]
            go_wp2_with fail
            refine (feed_any mb g cap i _ b x hM6 HI.out (by omega) hb8 (by omega) _ HS).mono ?_
            rintro e w8 ⟨⟨v8, rfl⟩, hT⟩
            obtain ⟨g2, cap2, hM8, hg2, hB8⟩ := hT.below hB6 hB6.size hmbw hg
            go_wp2
            go_roundw
            case rel => exact ⟨i + 1, by go_num, by omega, fun _ => ⟨g2, cap2, hM8, hg2⟩, hB8⟩
            case measure => simp [intOf]; omega
          · have hlt2 : ¬ (i : Int) < s.size := by omega
            go_wp2
            go_roundw
            case rel => exact ⟨i + 1, by go_num, by omega, fun h => by omega, hB6⟩
            case measure => simp [intOf]; omega
      · obtain rfl : i = s.size + 1 := by omega
        have hle2 : ¬ ((s.size + 1 : Nat) : Int) ≤ s.size := by omega
        go_wp2
        go_ret
        exact ⟨rfl, hB⟩
end Go.Proofs.Ytjbehefbdfampaa

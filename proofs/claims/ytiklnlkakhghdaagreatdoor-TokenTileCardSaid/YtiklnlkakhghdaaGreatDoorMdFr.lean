/- What Fresh and Run of layer 6 (modes) return. Condition: texts of at most 99,000 bytes. -/
import Derived.Test.YtiklnlkakhghdaaGreatDoorMdF
namespace Go.Proofs.YtiklnlkakhghdaaGreatDoor
open Go.RowKit
set_option linter.unusedVariables false

section
variable (mb g cap p : Nat) (w : World)
set_option maxHeartbeats 1000000 in
theorem fresh_any (x : Ms) (hM : Mc w mb g cap x p) :
    Calls Tryz.prog 97 #[.pointer (some ⟨mb, 0, none⟩)] w fun e w' => e = .returned (.bool x.fresh) ∧ w' = w := by
  have c0 : w.cell? ⟨mb, 1, none⟩ = some (.bool x.fresh) := hM.obj.cell 1
  go_enter Tryz.func97, Tryz.ntmps97
  go_wp2
  go_ret
  exact ⟨rfl, rfl⟩
def RnRel (s : ByteArray) (w : World) (v5 v9 : Value) (wr : World) : Prop :=
  ∃ k g cap, k ≤ s.size ∧ v9 = .int .i64 (k : Nat) ∧ Mc wr (w.heap.size + 1) g cap (runK s k) k ∧ w.heap.size ≤ g ∧ Below w.heap.size w wr ∧ w.heap.size + 1 < wr.heap.size
set_option maxRecDepth 100000 in
set_option maxHeartbeats 2000000 in
theorem run_any (s : ByteArray) (hs : s.size ≤ 99000) :
    Calls Tryz.prog 72 #[.string s] w fun e w' => (∃ v, e = .returned (.tuple #[v, .bool (runK s s.size).fresh]) ∧ Rs w' w.heap.size v (runK s s.size).st.reverse) ∧ Below w.heap.size w w' := by
  go_enter Tryz.func72, Tryz.ntmps72
  go_wp2_with fail
  refine (new_any w).mono ?_
  rintro e w1 ⟨rfl, hM1, hB1⟩
  go_wp2
  go_loopw [5, 9] (fun v5 v9 wr => RnRel s w v5 v9 wr) (fun _ v _ => s.size - (intOf v).toNat)
  case atStart => exact ⟨0, _, _, Nat.zero_le _, rfl, hM1, Nat.le_refl _, hB1, hM1.obj.lt⟩
  case round =>
    obtain ⟨k, g, cap, hk, rfl, hM, hg, hB, hlt⟩ := hrel
    clear hM1 hB1
    have hI := runK_inv s k
    have hlen := runK_len s k
    have hne := hI.ne
    have hsucc := runK_succ s k
    obtain ⟨x, hx⟩ : ∃ x, runK s k = x := ⟨_, rfl⟩
    rw [hx] at hM hI hlen hne hsucc
    have HX := Lib.hid hx
    clear hx
    by_cases hlt2 : (k : Int) < s.size
    · have hlt' : k < s.size := by omega
      have hby : (s[k].toNat : Int) = (by8 s k : Nat) := by unfold by8; rw [bt_eq hlt']
      have hb8 := by8_lt s k
      obtain ⟨b, hb⟩ : ∃ b, by8 s k = b := ⟨_, rfl⟩
      rw [hb] at hby hb8 hsucc
      have HB := Lib.hid hb
      have HS := Lib.hid hsucc
      have HI := Lib.hid hI
      clear hb hsucc hI
      go_wp2_with fail
      refine (feed_any (w.heap.size + 1) g cap k _ b x hM HI.out (by omega) hb8 (by omega) _ HS).mono ?_
      rintro e w2 ⟨⟨v, rfl⟩, hT⟩
      obtain ⟨g2, cap2, hM2, hg2, hB2⟩ := hT.below hB (by omega) (by omega) hg
      go_wp2
      go_roundw
      case rel => exact ⟨k + 1, g2, cap2, by omega, by go_num, hM2, hg2, hB2, hM2.obj.lt⟩
      case measure => simp [intOf]; omega
    · obtain rfl : k = s.size := by omega
      rw [← HX.out] at hM hI hlen hne
      clear hsucc
      go_wp2_with fail
      refine (frames_any (w.heap.size + 1) g cap _ _ _ hM hne (by omega)).mono ?_
      rintro e w2 ⟨⟨v, rfl, hR⟩, hB2⟩
      go_wp2_with fail
      refine (fresh_any (w.heap.size + 1) g cap _ _ _ (hM.frm (Frm.of_below (p := fun _ => False) hB2) (fun h => h) (fun h => h))).mono ?_
      rintro e w3 ⟨rfl, rfl⟩
      go_wp2
      go_ret2
      exact ⟨⟨v, rfl, hR.base (by omega)⟩, hB.trans (hB2.mono (by omega))⟩
end
end Go.Proofs.YtiklnlkakhghdaaGreatDoor

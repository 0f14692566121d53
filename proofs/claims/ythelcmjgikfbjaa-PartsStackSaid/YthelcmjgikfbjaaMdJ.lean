/- What Run of the document's own machine returns. Condition: texts of at most 80,000 bytes. -/
import Derived.Test.YthelcmjgikfbjaaMdI
import Derived.Test.YthelcmjgikfbjaaMdR
import Derived.Deep.RegionWith
namespace Go.Proofs.Ythelcmjgikfbjaa
open Go.RowKit
set_option linter.unusedVariables false

/-- A machine lies in a block of its own. -/
structure Bx (w0 w : World) (B : Nat) (x : Ms) (S : ByteArray) (g n cap : Nat) : Prop where
  box : Blk w B #[.string S, .slice (some ⟨g, 0, none⟩) n cap, .bool x.fresh] 32
  rv : Rv w x.st S g n cap
  ne : g ≠ B
  ge : w0.heap.size ≤ g
  geB : w0.heap.size ≤ B
  below : Below w0.heap.size w0 w
theorem Bx.step {w0 w w' : World} {B : Nat} {x y : Ms} {S : ByteArray} {g n cap : Nat} (h : Bx w0 w B x S g n cap) {S2 : ByteArray} {g2 n2 cap2 : Nat} (hR : Rv w' y.st S2 g2 n2 cap2) (hb : Below w.heap.size w w') (hg : g2 = g ∨ w.heap.size ≤ g2) :
    Bx w0 (((w'.setCell ⟨B, 0, none⟩ (.string S2)).setCell ⟨B, 1, none⟩ (.slice (some ⟨g2, 0, none⟩) n2 cap2)).setCell ⟨B, 2, none⟩ (.bool y.fresh)) B y S2 g2 n2 cap2 := by
  have hlt := h.box.lt
  have hgl := h.rv.lt
  have hs := hb.size
  have h1 := h.ge
  have h2 := h.below.size
  have hne : g2 ≠ B := by
    rcases hg with rfl | hg
    · exact h.ne
    · omega
  have hge : w0.heap.size ≤ g2 := by omega
  refine ⟨?_, hR.frm (((Frm.put (Frm.refl _ w') 0 _).put 1 _).put 2 _) hne, hne, hge, h.geB, ?_⟩
  · have := (((h.box.below hb).set 0 (.string S2)).set 1 (.slice (some ⟨g2, 0, none⟩) n2 cap2)).set 2 (.bool y.fresh)
    simpa using this
  · have hb0 : Below w0.heap.size w0 w' := h.below.trans (hb.mono h2)
    exact ((hb0.setCell (p := ⟨B, 0, none⟩) h.geB _).setCell (p := ⟨B, 1, none⟩) h.geB _).setCell (p := ⟨B, 2, none⟩) h.geB _
theorem Bx.drew {w0 w : World} {B : Nat} {x : Ms} {S : ByteArray} {g n cap : Nat} (h : Bx w0 w B x S g n cap) : Bx w0 w.drew B x S g n cap :=
  ⟨h.box.drew, h.rv.frm ((Frm.refl (fun _ => False) w).drew) (fun h => h), h.ne, h.ge, h.geB, h.below.drew⟩

set_option maxRecDepth 100000 in
set_option maxHeartbeats 4000000 in
theorem refrun_any (w : World) (s : ByteArray) (hs : s.size ≤ 80000) :
    Calls Try.prog 16 #[.string s] w (RvTo w w.heap.size (runK s s.size).st (runK s s.size).fresh) := by
  go_enter Try.func16, Try.ntmps16
  go_wp2_with fail
  refine (rv_first _).mono ?_
  rintro e w1 ⟨S1, g1, n1, cap1, rfl, hR1, hb1, hg1⟩
  have hs1 := hb1.size
  rw [World.size_alloc] at hs1 hg1
  have hres1 := (Blk.new w #[.string ⟨#[]⟩, .slice none 0 0, .bool false] 32).below hb1
  have hB1 : Below w.heap.size w w1 := ((Below.refl w.heap.size w).alloc (Nat.le_refl _) _).trans (hb1.mono (by simp))
  have hlt1 := hR1.lt
  go_wp2
  go_loopw [4] (fun v wr => ∃ (i : Nat) (S : ByteArray) (g n cap : Nat), v = .int .i64 i ∧ i ≤ s.size ∧ Bx w wr w1.heap.size (runK s i) S g n cap ∧ g ≠ w.heap.size ∧ w1.heap.size < wr.heap.size ∧ Blk wr w.heap.size #[.string ⟨#[]⟩, .slice none 0 0, .bool false] 32) (fun v _ => s.size - (intOf v).toNat)
  case atStart =>
    refine ⟨0, S1, g1, n1, cap1, rfl, Nat.zero_le _, ⟨Blk.new w1 _ _, hR1.below ((Below.refl _ _).alloc (Nat.le_refl _) _), by omega, by omega, by omega, hB1.alloc hB1.size _⟩, by omega, by simp, hres1.alloc _⟩
  case round =>
    obtain ⟨i, S, g, n, cap, rfl, hi, hX, hgn, hwr, hres⟩ := hrel
    clear hR1 hb1 hg1 hres1 hB1 hlt1
    have hI := runK_inv s i
    have hlen := runK_len s i
    have hsucc := runK_succ s i
    obtain ⟨x, hx⟩ : ∃ x, runK s i = x := ⟨_, rfl⟩
    rw [hx] at hX hI hlen hsucc
    have HX := Lib.hid hx
    clear hx
    have b0 : wr.cell? ⟨w1.heap.size, 0, none⟩ = some (.string S) := hX.box.cell 0
    have b1 : wr.cell? ⟨w1.heap.size, 1, none⟩ = some (.slice (some ⟨g, 0, none⟩) n cap) := hX.box.cell 1
    have b2 : wr.cell? ⟨w1.heap.size, 2, none⟩ = some (.bool x.fresh) := hX.box.cell 2
    by_cases hlt : i < s.size
    · have hlt2 : (i : Int) < s.size := by omega
      have hq0 : (0 : Int) ≤ (i : Int) := by omega
      have hby : (s[i].toNat : Int) = (by8 s i : Nat) := by unfold by8; rw [bt_eq hlt]
      obtain ⟨b, hb⟩ : ∃ b, by8 s i = b := ⟨_, rfl⟩
      rw [hb] at hby hsucc
      have HS := Lib.hid hsucc
      have HI := Lib.hid hI
      clear hsucc hI hb
      have hstep := fun W (h : Below wr.heap.size wr W) => step_any W b i S g n cap x HI.out (hX.rv.below h) (by omega)
      rw [← HS.out] at hstep
      obtain ⟨y, hy⟩ : ∃ y, runK s (i + 1) = y := ⟨_, rfl⟩
      rw [hy] at hstep
      have HY := Lib.hid hy
      clear hy
      go_wp2
      go_region_with (go_at_call 25; refine (hstep _ (Below.refl _ _).drew).mono ?_; rintro e w2 ⟨S2, g2, n2, cap2, rfl, hR2, hb2, hg2⟩; have hbx2 := hX.drew.box.below hb2; have d0 := hbx2.cell 0; have d1 := hbx2.cell 1; have d2 := hbx2.cell 2; have e0 := hbx2.frozen 0; have e1 := hbx2.frozen 1; have e2 := hbx2.frozen 2; simp at d0 d1 d2)
      all_goals
        go_wp2
        go_roundw
        case rel =>
          have hst := hX.drew.step (y := y) hR2 hb2 hg2
          have hs2 := hb2.size
          refine ⟨i + 1, S2, g2, n2, cap2, by go_num, by omega, by rw [HY.out]; exact hst, ?_, ?_, ?_⟩
          · have : wr.drew.heap.size = wr.heap.size := rfl
            have hl0 := hres.lt
            omega
          · have : wr.drew.heap.size = wr.heap.size := rfl
            simp [World.setCell]
            omega
          · exact (((hres.drew.below hb2).other _ _ (by omega)).other _ _ (by omega)).other _ _ (by omega)
        case measure => simp [intOf]; omega
    · obtain rfl : i = s.size := by omega
      rw [HX.out]
      have r0 := hres.cell 0
      have r1 := hres.cell 1
      have r2 := hres.cell 2
      have f0 := hres.frozen 0
      have f1 := hres.frozen 1
      have f2 := hres.frozen 2
      simp at r0 r1 r2
      clear hsucc
      go_wp2
      refine bodyPost_ret (v := .agg #[.string S, .slice (some ⟨g, 0, none⟩) n cap, .bool x.fresh]) (by simp [results, Try.results16, go_sem, *]) rfl ?_
      rw [HX.out]
      exact rv_done hX.rv hX.below w.heap.size (Nat.le_refl _) hgn (.inr hX.ge) _ _ _
end Go.Proofs.Ythelcmjgikfbjaa

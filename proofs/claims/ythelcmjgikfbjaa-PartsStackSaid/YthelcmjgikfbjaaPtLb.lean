/- What layer 7's statement PartsNest does. No condition but that a text's length fits an int. -/
import Derived.Test.YthelcmjgikfbjaaPtU
import Derived.Test.YthelcmjgikfbjaaPtLa
namespace Go.Proofs.Ythelcmjgikfbjaa
open Go.RowKit
set_option linter.unusedVariables false

theorem RdP.get {w : World} {oa : Option Addr} {n : Nat} {L : List Prt} (h : RdP w oa n L) {i : Nat} {p : Prt} (hp : L[i]? = some p) : ∃ ob, oa = some ⟨ob, 0, none⟩ ∧ ob < w.heap.size ∧ w.cell? ⟨ob, i * 5, none⟩ = some (.int .i64 (p.mode : Int)) ∧ w.cell? ⟨ob, i * 5 + 1, none⟩ = some (.int .i64 (p.frm : Int)) ∧ w.cell? ⟨ob, i * 5 + 2, none⟩ = some (.int .i64 (p.to : Int)) ∧ w.cell? ⟨ob, i * 5 + 3, none⟩ = some (.int .i64 p.up) ∧ w.cell? ⟨ob, i * 5 + 4, none⟩ = some (.bool p.op) := by
  obtain ⟨ob, h1, h2, h3⟩ := h.cells i p hp
  have h0 := h3 0 _ rfl
  rw [Nat.add_zero] at h0
  exact ⟨ob, h1, h2, h0, h3 1 _ rfl, h3 2 _ rfl, h3 3 _ rfl, h3 4 _ rfl⟩
theorem prt_up (s : ByteArray) (f : Nat) : (prt s f).up = upI s f := by
  unfold prt
  split
  · rw [(closeP_frm _ _ _ _).2.2, (prtK_frm _ _ _).2.1]
  · exact (prtK_frm _ _ _).2.1
theorem lastU_le (s : ByteArray) (f : Nat) : ∀ k : Nat, -1 ≤ lastU s f k ∧ lastU s f k < k ∨ lastU s f k = -1
  | 0 => .inr rfl
  | k + 1 => by
    unfold lastU
    split
    · left; omega
    · rcases lastU_le s f k with h | h
      · left; omega
      · exact .inr h

def NsRl (n : Nat) (w : World) (v4 : Value) (wr : World) : Prop := ∃ i : Nat, i ≤ n ∧ v4 = .int .i64 (i : Int) ∧ Frm (fun _ => False) w wr
def NkRl (s : ByteArray) (f i : Nat) (w : World) (v5 v6 : Value) (wr : World) : Prop := ∃ k : Nat, k ≤ i ∧ v6 = .int .i64 (k : Int) ∧ v5 = .int .i64 (lastU s f k) ∧ Frm (fun _ => False) w wr
section
variable (w : World)
set_option maxRecDepth 100000 in
set_option maxHeartbeats 8000000 in
theorem partsNest_law (s : ByteArray) (hmax : s.size ≤ 9223372036854775807) :
    Calls Try.prog 4 #[.string s] w fun e w' => e = .returned (.bool true) ∧ Below w.heap.size w w' := by
  by_cases hs : s.size ≤ 100
  · have hz : ¬ (100 : Int) < (s.size : Int) := by omega
    go_enter Try.func4, Try.ntmps4
    go_wp2_with fail
    refine (awake_any _).mono ?_
    rintro e w0 ⟨rfl, hB0⟩
    go_wp2_with fail
    refine (of_parts_any _ s (by omega)).mono ?_
    rintro e w1 ⟨⟨v, rfl, hP⟩, hB1⟩
    obtain ⟨oa, n, oc, rfl, hR⟩ := hP.read
    have hnl : n ≤ 100 := by have h1 := hR.len; have h2 := PL_len s; omega
    have HR := Lib.hid hR
    have hB : Below w.heap.size w w1 := hB0.trans (hB1.mono hB0.size)
    clear hR hP hB0 hB1
    go_wp2
    go_loopw [4] (fun v wr => NsRl n w1 v wr) (fun v _ => n - (intOf v).toNat)
    case atStart => exact ⟨0, Nat.zero_le _, rfl, Frm.refl _ _⟩
    case round =>
      obtain ⟨i, hi, rfl, hF⟩ := hrel
      by_cases hlt : (i : Int) < (n : Int)
      · have hlt' : i < n := by omega
        have q0 : (0 : Int) ≤ (i : Int) := by omega
        have hiL : i < (PL s).length := by have := HR.out.len; omega
        obtain ⟨f, hfi, hpe, hfs, hbf, hpf, hpt, hpmd⟩ := PL_get (List.getElem?_eq_getElem hiL)
        have hpi : (PL s)[i]? = some (prt s f) := by rw [← hpe]; exact List.getElem?_eq_getElem hiL
        have hidx := (idx_get hfi).1
        have HREAD := Lib.hid (fun W (hW : Frm (fun _ => False) w1 W) j p (hp : (PL s)[j]? = some p) => (HR.out.frm hW (fun _ _ h => h)).get hp)
        obtain ⟨ob, rfl, _, _, a1, a2, a3, _⟩ := HREAD.out wr hF i _ hpi
        rw [prt_frm] at a1
        rw [prt_up] at a3
        have htg := to_gt hbf hfs
        have htl := (prt_le hfs hbf).1
        have hup := lastU_up hbf hfs
        rw [hidx] at hup
        -- those ahead of it
        have hahead : ∀ k, k < i → ∃ g, (bornL s s.size)[k]? = some g ∧ (PL s)[k]? = some (prt s g) ∧ g < f ∧ born s g = true ∧ g < s.size := by
          intro k hk
          obtain ⟨g, hgk, hge, hgs, hbg, _, _, _⟩ := PL_get (s := s) (i := k) (List.getElem?_eq_getElem (by omega))
          refine ⟨g, hgk, by rw [← hge]; exact List.getElem?_eq_getElem (by omega), ?_, hbg, hgs⟩
          apply Classical.byContradiction
          intro gg
          have h1 := (idx_get hgk).1
          rcases Nat.eq_or_lt_of_le (Nat.le_of_not_lt gg) with e | e
          · rw [← e] at h1; omega
          · have := idx_mono hbf e; omega
        obtain ⟨t, ht⟩ : ∃ t, (prt s f).to = t := ⟨_, rfl⟩
        rw [ht] at a2 htg htl
        obtain ⟨up, hupe⟩ : ∃ up, upI s f = up := ⟨_, rfl⟩
        rw [hupe] at a3 hup
        have HT := Lib.hid ht
        have HAH := Lib.hid hahead
        have HUP := Lib.hid hup
        have HBF := Lib.hid hbf
        have HFS := Lib.hid hfs
        have HPI := Lib.hid hpi
        have b1 : ¬ (f : Int) < 0 := by omega
        have b2 : ¬ (t : Int) ≤ (f : Int) := by omega
        have b3 : ¬ (s.size : Int) < (t : Int) := by omega
        have b1d : decide ((f : Int) < 0) = false := by simp
        have b2d : decide (t ≤ f) = false := by simp; omega
        have b3d : decide (s.size < t) = false := by simp; omega
        clear hpmd hfi hpe hpf hpt hiL hpi hidx hupe ht hup hahead hbf
        -- the first test says no
        go_upto_region 9 with fail
        go_cut [66] from 20 to 66 (fun v66 wx => v66 = .bool false ∧ Frm (fun _ => False) w1 wx)
        case first =>
          by_cases hi0 : 0 < i
          · obtain ⟨g, _, hpg, hgf, _, _⟩ := HAH.out (i - 1) (by omega)
            obtain ⟨ob', he, _, _, c1, _, _, _⟩ := HREAD.out wr hF (i - 1) _ hpg
            cases he
            rw [prt_frm] at c1
            obtain ⟨j, hj⟩ : ∃ j, i - 1 = j := ⟨_, rfl⟩
            rw [hj] at c1
            have e1 : IntKind.i64.wrap ((i : Int) - 1) = (j : Int) := by rw [IntWalk.i64_in _ (by omega)]; omega
            have q1 : (0 : Int) ≤ (j : Int) := by omega
            have q2 : (j : Int) < (n : Int) := by omega
            have d1 : (0 : Int) < (i : Int) := by omega
            have d1d : decide (0 < i) = true := by simpa using hi0
            have d2 : ¬ (f : Int) ≤ (g : Int) := by omega
            have d2d : decide (f ≤ g) = false := by simp; omega
            clear hj hpg
            go_wp2
            go_quiet (fail)
            go_wp2_with fail
            go_meet
            case rel => exact ⟨rfl, hF.drewN _⟩
          · obtain rfl : i = 0 := by omega
            go_wp2
            go_quiet (fail)
            go_wp2_with fail
            go_meet
            case rel => exact ⟨rfl, hF.drewN _⟩
        case rest =>
          obtain ⟨rfl, hFc⟩ := hcut
          clear hF a1 a2 a3
          go_wp2
          go_loopw [5, 6] (fun v5 v6 wr => NkRl s f i w1 v5 v6 wr) (fun _ v _ => i - (intOf v).toNat)
          case atStart => exact ⟨0, Nat.zero_le _, rfl, rfl, hFc⟩
          case round =>
            obtain ⟨k, hk, rfl, rfl, hFk⟩ := hrel
            clear hFc
            have hlu : lastU s f (k + 1) = lastU s f (k + 1) := rfl
            by_cases hlk : (k : Int) < (i : Int)
            · have hlk' : k < i := by omega
              obtain ⟨g, hgk, hpg, hgf, hbg, hgs⟩ := HAH.out k hlk'
              obtain ⟨ob1, he1, _, _, x1, x2, _, _⟩ := HREAD.out wr hFk i _ HPI.out
              cases he1
              obtain ⟨ob2, he2, _, _, y1, y2, _, _⟩ := HREAD.out wr hFk k _ hpg
              cases he2
              rw [prt_frm] at x1
              rw [HT.out] at x2
              obtain ⟨tg, htg2⟩ : ∃ tg, (prt s g).to = tg := ⟨_, rfl⟩
              rw [htg2] at y2
              have hsu : lastU s f (k + 1) = if f < tg then ((k : Nat) : Int) else lastU s f k := by
                show (if f < (prt s ((bornL s s.size)[k]?.getD 0)).to then ((k : Nat) : Int) else lastU s f k) = _
                rw [hgk, Option.getD_some, htg2]
              have hcv := fun h => cover_to hbg HBF.out hgf HFS.out ((cover_iff hbg HBF.out hgf HFS.out).1 h)
              rw [htg2, HT.out] at hcv
              have HSU := Lib.hid hsu
              have q3 : (0 : Int) ≤ (k : Int) := by omega
              have q4 : (k : Int) < (n : Int) := by omega
              obtain ⟨lu, hlue⟩ : ∃ lu, lastU s f k = lu := ⟨_, rfl⟩
              rw [hlue] at HSU ⊢
              clear hgk hpg hsu hlue htg2 hlu
              by_cases hft : f < tg
              · have g1 : decide (f < tg) = true := by simpa using hft
                have g2 : (f : Int) < (tg : Int) := by omega
                have g3 := hcv hft
                have g4 : decide (tg < t) = false := by simp; omega
                have g5 : ¬ (tg : Int) < (t : Int) := by omega
                have HFT := Lib.hid hft
                clear hcv hft g3
                go_wp2
                go_quiet (fail)
                obtain ⟨V, hV⟩ : ∃ V, V = wr.drewN nq := ⟨_, rfl⟩
                have hFV : Frm (fun _ => False) w1 V := by rw [hV]; exact hFk.drewN _
                have z2 : V.cell? ⟨ob, i * 5 + 2, none⟩ = some (.int .i64 (t : Int)) := hV ▸ x2
                have z3 : V.cell? ⟨ob, k * 5 + 2, none⟩ = some (.int .i64 (tg : Int)) := hV ▸ y2
                rw [← hV]
                clear hV x1 x2 y1 y2
                go_wp2
                go_quiet (fail)
                go_wp2
                go_roundw
                case rel => exact ⟨k + 1, by omega, by go_num, by rw [HSU.out, if_pos HFT.out], hFV.drewN _⟩
                case measure => simp [intOf]; omega
              · have g1 : decide (f < tg) = false := by simpa using hft
                have g2 : ¬ (f : Int) < (tg : Int) := by omega
                have HFT := Lib.hid hft
                clear hcv hft
                go_wp2
                go_quiet (fail)
                go_wp2
                go_roundw
                case rel => exact ⟨k + 1, by omega, by go_num, by rw [HSU.out, if_neg HFT.out], hFk.drewN _⟩
                case measure => simp [intOf]; omega
            · obtain rfl : i = k := by omega
              rw [HUP.out]
              obtain ⟨ob1, he1, _, _, _, _, x3, _⟩ := HREAD.out wr hFk i _ HPI.out
              cases he1
              have hpu : (prt s f).up = up := by
                rw [prt_up]
                have := lastU_up HBF.out HFS.out
                have h2 := (idx_get (s := s) (k := s.size) (i := i) (f := f) (by
                  obtain ⟨f2, hf2, he2, _, _, hpf2, _, _⟩ := PL_get HPI.out
                  rw [prt_frm] at hpf2
                  rw [hpf2]; exact hf2)).1
                rw [h2, HUP.out] at this
                exact this.symm
              rw [hpu] at x3
              have hne : (up != up) = false := by simp
              clear hpu hlu
              go_wp2
              go_roundw
              case rel => exact ⟨i + 1, by omega, by go_num, hFk⟩
              case measure => simp [intOf]; omega
      · obtain rfl : n = i := by omega
        go_wp2
        go_ret
        exact ⟨rfl, hB.trans (hF.below hB.size (fun _ h => h.elim))⟩
  · have hz : (100 : Int) < (s.size : Int) := by omega
    go_enter Try.func4, Try.ntmps4
    go_wp2_with fail
    refine (awake_any _).mono ?_
    rintro e w0 ⟨rfl, hB0⟩
    go_wp2
    go_ret
    exact ⟨rfl, hB0⟩
end
end Go.Proofs.Ythelcmjgikfbjaa

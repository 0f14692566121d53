/- What Diff of layer 1 (edit) and the document's own Diff return: one and the same edit: conditions: each text at most 2^48 bytes. -/
import Derived.Test.YtjickhgkhcojgaaEdB
import Derived.Test.YtjickhgkhcojgaaEdQ
import Derived.WalkMore
import Derived.StillTailTactics
namespace Go.Proofs.Ytjickhgkhcojgaa
open Go.RowKit
set_option linter.unusedVariables false

def SomeHT (a b : ByteArray) (w : World) (e : Ending) (w' : World) : Prop := ∃ h t : Nat, IsDiff a b h t ∧ e = .returned (.tuple #[.int .i64 h, .int .i64 t]) ∧ Below w.heap.size w w'
def AlRel (a b : ByteArray) (w : World) (vh vt : Value) (wr : World) : Prop := ∃ h t : Nat, vh = .int .i64 h ∧ vt = .int .i64 t ∧ AlInv a b h t ∧ Below w.heap.size w wr

set_option maxHeartbeats 1000000 in
theorem alike_any (a b : ByteArray) (w : World) (ha : a.size ≤ 281474976710656) (hb : b.size ≤ 281474976710656) :
    Calls Try.prog 25 #[.string a, .string b] w (SomeHT a b w) := by
  go_enter Try.func25, Try.ntmps25
  go_wp2
  go_step3
  go_wp2
  go_step3
  go_wp2
  go_loopw [4, 5] (fun h t wr => AlRel a b w h t wr) (fun h t wr => a.size - (intOf h).toNat - (intOf t).toNat)
  case atStart => exact ⟨0, 0, rfl, rfl, AlInv.zero a b, Below.refl _ _⟩
  case round =>
    obtain ⟨h, t, rfl, rfl, hI, hbel⟩ := hrel
    have HI := Lib.hid hI
    have hA := hI.1
    have hB := hI.2.1
    clear hI
    by_cases hlt : (h : Int) + t < min (a.size : Int) b.size
    · have hx : (h : Int) < a.size := by omega
      have hy : (h : Int) < b.size := by omega
      have hx' : h < a.size := by omega
      have hy' : h < b.size := by omega
      have hq1 : IntKind.i64.wrap ((a.size : Int) - 1) = (a.size : Int) - 1 := IntWalk.i64_in _ (by omega)
      have hq2 : IntKind.i64.wrap ((b.size : Int) - 1) = (b.size : Int) - 1 := IntWalk.i64_in _ (by omega)
      obtain ⟨p, hp⟩ : ∃ p, p = a.size - 1 - t := ⟨_, rfl⟩
      obtain ⟨q, hq⟩ : ∃ q, q = b.size - 1 - t := ⟨_, rfl⟩
      have hpl : (p : Int) < a.size := by omega
      have hql : (q : Int) < b.size := by omega
      have hpl' : p < a.size := by omega
      have hql' : q < b.size := by omega
      have hq3 : IntKind.i64.wrap ((a.size : Int) - 1 - t) = (p : Int) := by rw [IntWalk.i64_in _ (by omega)]; omega
      have hq4 : IntKind.i64.wrap ((b.size : Int) - 1 - t) = (q : Int) := by rw [IntWalk.i64_in _ (by omega)]; omega
      have HP := Lib.hid hp
      have HQ := Lib.hid hq
      clear hp hq
      by_cases e1 : bt a h = bt b h
      · have t1 : ((a[h].toNat : Int) == (b[h].toNat : Int)) = true := by rw [bt_eq hx', bt_eq hy'] at e1; rw [e1]; simp
        have HE := Lib.hid e1
        clear e1
        go_wp2
        go_quiet (fail)
        go_wp2
        go_roundw
        case rel => exact ⟨h + 1, t, by go_num, rfl, HI.out.stepA (by omega) (by omega) HE.out, below_drewN hbel _⟩
        case measure => simp [intOf]; omega
      · have t1 : ((a[h].toNat : Int) == (b[h].toNat : Int)) = false := by
          rw [bt_eq hx', bt_eq hy'] at e1
          rw [beq_eq_false_iff_ne]
          intro g
          exact e1 (UInt8.toNat_inj.1 (by omega))
        have HE := Lib.hid e1
        clear e1
        by_cases e2 : bt a p = bt b q
        · have t2 : ((a[p].toNat : Int) == (b[q].toNat : Int)) = true := by rw [bt_eq hpl', bt_eq hql'] at e2; rw [e2]; simp
          have HE2 := Lib.hid e2
          clear e2
          go_wp2
          go_quiet (fail)
          go_wp2
          go_quiet (fail)
          clear hq1 hq2 hq3 hq4
          go_wp2
          go_roundw
          case rel => exact ⟨h, t + 1, rfl, by go_num, HI.out.stepB (by omega) (by omega) HE.out (by have := HE2.out; rw [HP.out, HQ.out] at this; exact this), below_drewN hbel _⟩
          case measure => simp [intOf]; omega
        · have t2 : ((a[p].toNat : Int) == (b[q].toNat : Int)) = false := by
            rw [bt_eq hpl', bt_eq hql'] at e2
            rw [beq_eq_false_iff_ne]
            intro g
            exact e2 (UInt8.toNat_inj.1 (by omega))
          have HE2 := Lib.hid e2
          clear e2
          go_wp2
          go_quiet (fail)
          go_wp2
          go_quiet (fail)
          clear hq1 hq2 hq3 hq4
          go_wp2
          try rw [Exit.noGoto_ret]
          go_ret2
          exact ⟨h, t, HI.out.endC HE.out (by have := HE2.out; rw [HP.out, HQ.out] at this; exact this), rfl, below_drewN (below_drewN hbel _) _⟩
    · go_wp2
      try rw [Exit.noGoto_ret]
      go_ret2
      exact ⟨h, t, HI.out.endD (by omega), rfl, hbel⟩

/-- The edit that Diff answers, whichever of the two. -/
def SomeDiff (a b : ByteArray) (w : World) (e : Ending) (w' : World) : Prop :=
  ∃ h t : Nat, IsDiff a b h t ∧ e = .returned (.agg #[.int .i64 h, .string (a.extract h (a.size - t)), .string (b.extract h (b.size - t))]) ∧ Below w.heap.size w w'

set_option maxHeartbeats 400000 in
theorem diff_any (a b : ByteArray) (w : World) (ha : a.size ≤ 281474976710656) (hb : b.size ≤ 281474976710656) :
    Calls Try.prog 16 #[.string a, .string b] w (SomeDiff a b w) := by
  go_enter Try.func16, Try.ntmps16
  go_wp2_with fail
  refine (alike_any a b _ ha hb).mono ?_
  rintro e w1 ⟨h, t, hD, rfl, hb1⟩
  have HD := Lib.hid hD
  have hA := hD.1
  have hB := hD.2.1
  clear hD
  obtain ⟨p, hp⟩ : ∃ p, p = a.size - t := ⟨_, rfl⟩
  obtain ⟨q, hq⟩ : ∃ q, q = b.size - t := ⟨_, rfl⟩
  have hq3 : (a.size : Int) - t = (p : Int) := by omega
  have hq4 : (b.size : Int) - t = (q : Int) := by omega
  have h1 : (h : Int) ≤ p := by omega
  have h2 : (p : Int) ≤ a.size := by omega
  have h3 : (h : Int) ≤ q := by omega
  have h4 : (q : Int) ≤ b.size := by omega
  have HP := Lib.hid hp
  have HQ := Lib.hid hq
  clear hp hq
  go_wp2_with fail
  refine (cut_any a h p _ ha h1 h2).mono ?_
  rintro e w2 ⟨rfl, hb2⟩
  go_wp2_with fail
  refine (cut_any b h q _ hb h3 h4).mono ?_
  rintro e w3 ⟨rfl, hb3⟩
  obtain ⟨hc1, hf1⟩ := bcell hb1
  have hz1 : w.heap.size < w1.heap.size := by have := hb1.size; simp at this; omega
  obtain ⟨hc2, hf2⟩ := bcell hb2
  have hz2 : w.heap.size < w2.heap.size := by have := hb2.size; omega
  obtain ⟨hc3, hf3⟩ := bcell hb3
  have hz3 : w.heap.size < w3.heap.size := by have := hb3.size; omega
  have hB3 : Below w.heap.size w w3 := (below_new _ hb1).trans ((hb2.mono (by omega)).trans (hb3.mono (by omega)))
  clear hb1 hb2 hb3 hq3 hq4
  go_wp2
  refine bodyPost_ret (v := .agg #[.int .i64 h, .string (a.extract h p), .string (b.extract h q)]) (by simp [results, Try.results16, go_sem, *]) rfl ?_
  exact ⟨h, t, HD.out, by rw [HP.out, HQ.out], ((hB3.setCell (Nat.le_refl _) _).setCell (Nat.le_refl _) _).setCell (Nat.le_refl _) _⟩

def HdRel (a b : ByteArray) (w : World) (vh : Value) (wr : World) : Prop := ∃ h : Nat, vh = .int .i64 h ∧ HdInv a b h ∧ Below w.heap.size w wr
def TlRel (a b : ByteArray) (h : Nat) (w : World) (vt : Value) (wr : World) : Prop := ∃ t : Nat, vt = .int .i64 t ∧ TlInv a b h t ∧ Below w.heap.size w wr

set_option maxHeartbeats 2000000 in
theorem refdiff_a (a b : ByteArray) (w : World) (ha : a.size ≤ 281474976710656) (hb : b.size ≤ 281474976710656) (hle : a.size ≤ b.size) :
    Calls Try.prog 17 #[.string a, .string b] w (SomeDiff a b w) := by
  obtain ⟨W0, hW0⟩ : ∃ W0, W0 = w.alloc (Obj.cells #[Value.int IntKind.i64 0, Value.string { data := #[] }, Value.string { data := #[] }] 23) := ⟨_, rfl⟩
  have HW0 := Lib.hid hW0
  have b0 : Below w.heap.size w W0 := by rw [hW0]; exact (Below.refl _ _).alloc (Nat.le_refl _) _
  have z0 : w.heap.size < W0.heap.size := by rw [hW0]; simp
  have c0 : W0.cell? ⟨w.heap.size, 0, none⟩ = some (.int .i64 0) := by rw [hW0]; simp
  have c1 : W0.cell? ⟨w.heap.size, 1, none⟩ = some (.string { data := #[] }) := by rw [hW0]; simp
  have c2 : W0.cell? ⟨w.heap.size, 2, none⟩ = some (.string { data := #[] }) := by rw [hW0]; simp
  have f0 : ∀ o, W0.frozen? ⟨w.heap.size, o, none⟩ = false := by intro o; rw [hW0]; simp
  clear hW0
  go_enter Try.func17, Try.ntmps17
  go_wp2
  rw [← HW0.out]
  go_loopw [6] (fun h wr => HdRel a b W0 h wr) (fun h wr => a.size - (intOf h).toNat)
  case atStart => exact ⟨0, rfl, HdInv.zero a b, Below.refl _ _⟩
  case round =>
    obtain ⟨h, rfl, hI, hbel⟩ := hrel
    have HI := Lib.hid hI
    have hA := hI.1
    have hB := hI.2.1
    clear hI
    by_cases hlt : h < a.size
    · have hx : (h : Int) < a.size := by omega
      have hy : (h : Int) < b.size := by omega
      have hx' : h < a.size := by omega
      have hy' : h < b.size := by omega
      by_cases e1 : bt a h = bt b h
      · have t1 : ((a[h].toNat : Int) == (b[h].toNat : Int)) = true := by rw [bt_eq hx', bt_eq hy'] at e1; rw [e1]; simp
        have HE := Lib.hid e1
        clear e1
        go_wp2
        go_quiet (fail)
        go_wp2
        go_roundw
        case rel => exact ⟨h + 1, by go_num, HI.out.step hx' hy' HE.out, below_drewN hbel _⟩
        case measure => simp [intOf]; omega
      · have t1 : ((a[h].toNat : Int) == (b[h].toNat : Int)) = false := by
          rw [bt_eq hx', bt_eq hy'] at e1
          rw [beq_eq_false_iff_ne]
          intro g
          exact e1 (UInt8.toNat_inj.1 (by omega))
        have HE : Hid (h < a.size → h < b.size → bt a h ≠ bt b h) := Lib.hid fun _ _ => e1
        clear e1
        go_wp2
        go_quiet (fail)
        go_wp2
        have hbel1 := below_drewN hbel nq
        generalize wr.drewN nq = wq at hbel1
        clear hbel
        go_loopw [7] (fun t wr => TlRel a b h W0 t wr) (fun t wr => a.size - (intOf t).toNat)
        case atStart => exact ⟨0, rfl, TlInv.zero HI.out, hbel1⟩
        case round =>
          obtain ⟨t, rfl, hJ, hbel2⟩ := hrel
          have HJ := Lib.hid hJ
          have hA2 := hJ.1
          have hB2 := hJ.2.1
          clear hJ hbel1
          have hq0 : IntKind.i64.wrap ((a.size : Int) - h) = (a.size : Int) - h := IntWalk.i64_in _ (by omega)
          by_cases hlt2 : h + t < a.size
          · have hg : decide ((t : Int) < (a.size : Int) - h) = true := by simp; omega
            have hq1 : IntKind.i64.wrap ((a.size : Int) - 1) = (a.size : Int) - 1 := IntWalk.i64_in _ (by omega)
            have hq2 : IntKind.i64.wrap ((b.size : Int) - 1) = (b.size : Int) - 1 := IntWalk.i64_in _ (by omega)
            obtain ⟨p, hp⟩ : ∃ p, p = a.size - 1 - t := ⟨_, rfl⟩
            obtain ⟨q, hq⟩ : ∃ q, q = b.size - 1 - t := ⟨_, rfl⟩
            have hpl : (p : Int) < a.size := by omega
            have hql : (q : Int) < b.size := by omega
            have hpl' : p < a.size := by omega
            have hql' : q < b.size := by omega
            have hq3 : IntKind.i64.wrap ((a.size : Int) - 1 - t) = (p : Int) := by rw [IntWalk.i64_in _ (by omega)]; omega
            have hq4 : IntKind.i64.wrap ((b.size : Int) - 1 - t) = (q : Int) := by rw [IntWalk.i64_in _ (by omega)]; omega
            have HP := Lib.hid hp
            have HQ := Lib.hid hq
            clear hp hq
            by_cases e2 : bt a p = bt b q
            · have t2 : ((a[p].toNat : Int) == (b[q].toNat : Int)) = true := by rw [bt_eq hpl', bt_eq hql'] at e2; rw [e2]; simp
              have HE2 := Lib.hid e2
              clear e2
              go_wp2
              go_quiet (fail)
              clear hq0 hq1 hq2 hq3 hq4
              go_wp2
              go_roundw
              case rel => exact ⟨t + 1, by go_num, HJ.out.step (by omega) (by omega) (by have := HE2.out; rw [HP.out, HQ.out] at this; exact this), below_drewN hbel2 _⟩
              case measure => simp [intOf]; omega
            · have t2 : ((a[p].toNat : Int) == (b[q].toNat : Int)) = false := by
                rw [bt_eq hpl', bt_eq hql'] at e2
                rw [beq_eq_false_iff_ne]
                intro g
                exact e2 (UInt8.toNat_inj.1 (by omega))
              have HE2 : Hid (h + t < a.size → h + t < b.size → bt a (a.size - 1 - t) ≠ bt b (b.size - 1 - t)) := Lib.hid fun _ _ => by rw [← HP.out, ← HQ.out]; exact e2
              clear e2
              go_wp2
              go_quiet (fail)
              clear hq0 hq1 hq2 hq3 hq4
              go_wp2
              have hD := isDiff_of HI.out HJ.out HE.out HE2.out
              have HD := Lib.hid hD
              clear hD
              have hbel3 := below_drewN hbel2 nq
              generalize wr.drewN nq = wq3 at hbel3
              clear hbel2
              obtain ⟨hc, hf⟩ := bcell hbel3
              have hz := hbel3.size
              have hB3 := b0.trans (hbel3.mono (by omega))
              clear hbel3
              obtain ⟨p9, hp9⟩ : ∃ p, p = a.size - t := ⟨_, rfl⟩
              obtain ⟨q9, hq9⟩ : ∃ q, q = b.size - t := ⟨_, rfl⟩
              have hs3 : IntKind.i64.wrap ((a.size : Int) - t) = (p9 : Int) := by rw [IntWalk.i64_in _ (by omega)]; omega
              have hs4 : IntKind.i64.wrap ((b.size : Int) - t) = (q9 : Int) := by rw [IntWalk.i64_in _ (by omega)]; omega
              have k1 : (h : Int) ≤ p9 := by omega
              have k2 : (p9 : Int) ≤ a.size := by omega
              have k3 : (h : Int) ≤ q9 := by omega
              have k4 : (q9 : Int) ≤ b.size := by omega
              have HP9 := Lib.hid hp9
              have HQ9 := Lib.hid hq9
              clear hp9 hq9
              go_still_tail 16, (by kernel_rfl)
              change wpList _ _ _ _ _ wq3.drew
              have g0 : wq3.drew.cell? ⟨w.heap.size, 0, none⟩ = some (.int .i64 0) := (hc _ _ z0).trans c0
              have g1 : wq3.drew.cell? ⟨w.heap.size, 1, none⟩ = some (.string { data := #[] }) := (hc _ _ z0).trans c1
              have g2 : wq3.drew.cell? ⟨w.heap.size, 2, none⟩ = some (.string { data := #[] }) := (hc _ _ z0).trans c2
              have g3 : ∀ o, wq3.drew.frozen? ⟨w.heap.size, o, none⟩ = false := fun o => (hf _ o z0).trans (f0 o)
              have hB9 : Below w.heap.size w wq3.drew := below_drewN hB3 1
              generalize wq3.drew = w9 at g0 g1 g2 g3 hB9
              clear hB3 hc hf c0 c1 c2 f0 hs3 hs4 hz
              go_wp2
              refine bodyPost_ret (v := .agg #[.int .i64 h, .string (a.extract h p9), .string (b.extract h q9)]) (by simp [results, Try.results17, go_sem, *]) rfl ?_
              exact ⟨h, t, HD.out, by rw [HP9.out, HQ9.out], ((hB9.setCell (Nat.le_refl _) _).setCell (Nat.le_refl _) _).setCell (Nat.le_refl _) _⟩
          · have hg : decide ((t : Int) < (a.size : Int) - h) = false := by simp; omega
            have HE2 : Hid (h + t < a.size → h + t < b.size → bt a (a.size - 1 - t) ≠ bt b (b.size - 1 - t)) := Lib.hid fun _ _ => by omega
            go_wp2
            go_quiet (fail)
            clear hq0
            go_wp2
            have hD := isDiff_of HI.out HJ.out HE.out HE2.out
            have HD := Lib.hid hD
            clear hD
            have hbel3 := below_drewN hbel2 nq
            generalize wr.drewN nq = wq3 at hbel3
            clear hbel2
            obtain ⟨hc, hf⟩ := bcell hbel3
            have hz := hbel3.size
            have hB3 := b0.trans (hbel3.mono (by omega))
            clear hbel3
            obtain ⟨p9, hp9⟩ : ∃ p, p = a.size - t := ⟨_, rfl⟩
            obtain ⟨q9, hq9⟩ : ∃ q, q = b.size - t := ⟨_, rfl⟩
            have hs3 : IntKind.i64.wrap ((a.size : Int) - t) = (p9 : Int) := by rw [IntWalk.i64_in _ (by omega)]; omega
            have hs4 : IntKind.i64.wrap ((b.size : Int) - t) = (q9 : Int) := by rw [IntWalk.i64_in _ (by omega)]; omega
            have k1 : (h : Int) ≤ p9 := by omega
            have k2 : (p9 : Int) ≤ a.size := by omega
            have k3 : (h : Int) ≤ q9 := by omega
            have k4 : (q9 : Int) ≤ b.size := by omega
            have HP9 := Lib.hid hp9
            have HQ9 := Lib.hid hq9
            clear hp9 hq9
            go_still_tail 16, (by kernel_rfl)
            change wpList _ _ _ _ _ wq3.drew
            have g0 : wq3.drew.cell? ⟨w.heap.size, 0, none⟩ = some (.int .i64 0) := (hc _ _ z0).trans c0
            have g1 : wq3.drew.cell? ⟨w.heap.size, 1, none⟩ = some (.string { data := #[] }) := (hc _ _ z0).trans c1
            have g2 : wq3.drew.cell? ⟨w.heap.size, 2, none⟩ = some (.string { data := #[] }) := (hc _ _ z0).trans c2
            have g3 : ∀ o, wq3.drew.frozen? ⟨w.heap.size, o, none⟩ = false := fun o => (hf _ o z0).trans (f0 o)
            have hB9 : Below w.heap.size w wq3.drew := below_drewN hB3 1
            generalize wq3.drew = w9 at g0 g1 g2 g3 hB9
            clear hB3 hc hf c0 c1 c2 f0 hs3 hs4 hz
            go_wp2
            refine bodyPost_ret (v := .agg #[.int .i64 h, .string (a.extract h p9), .string (b.extract h q9)]) (by simp [results, Try.results17, go_sem, *]) rfl ?_
            exact ⟨h, t, HD.out, by rw [HP9.out, HQ9.out], ((hB9.setCell (Nat.le_refl _) _).setCell (Nat.le_refl _) _).setCell (Nat.le_refl _) _⟩
    · have hd : decide (h < a.size) = false := by simpa using hlt
      have HE : Hid (h < a.size → h < b.size → bt a h ≠ bt b h) := Lib.hid fun _ _ => by omega
      go_wp2
      go_quiet (fail)
      go_wp2
      have hbel1 := below_drewN hbel nq
      generalize wr.drewN nq = wq at hbel1
      clear hbel
      go_loopw [7] (fun t wr => TlRel a b h W0 t wr) (fun t wr => a.size - (intOf t).toNat)
      case atStart => exact ⟨0, rfl, TlInv.zero HI.out, hbel1⟩
      case round =>
        obtain ⟨t, rfl, hJ, hbel2⟩ := hrel
        have HJ := Lib.hid hJ
        have hA2 := hJ.1
        have hB2 := hJ.2.1
        clear hJ hbel1
        have hq0 : IntKind.i64.wrap ((a.size : Int) - h) = (a.size : Int) - h := IntWalk.i64_in _ (by omega)
        by_cases hlt2 : h + t < a.size
        · exfalso; omega
        · have hg : decide ((t : Int) < (a.size : Int) - h) = false := by simp; omega
          have HE2 : Hid (h + t < a.size → h + t < b.size → bt a (a.size - 1 - t) ≠ bt b (b.size - 1 - t)) := Lib.hid fun _ _ => by omega
          go_wp2
          go_quiet (fail)
          clear hq0
          go_wp2
          have hD := isDiff_of HI.out HJ.out HE.out HE2.out
          have HD := Lib.hid hD
          clear hD
          have hbel3 := below_drewN hbel2 nq
          generalize wr.drewN nq = wq3 at hbel3
          clear hbel2
          obtain ⟨hc, hf⟩ := bcell hbel3
          have hz := hbel3.size
          have hB3 := b0.trans (hbel3.mono (by omega))
          clear hbel3
          obtain ⟨p9, hp9⟩ : ∃ p, p = a.size - t := ⟨_, rfl⟩
          obtain ⟨q9, hq9⟩ : ∃ q, q = b.size - t := ⟨_, rfl⟩
          have hs3 : IntKind.i64.wrap ((a.size : Int) - t) = (p9 : Int) := by rw [IntWalk.i64_in _ (by omega)]; omega
          have hs4 : IntKind.i64.wrap ((b.size : Int) - t) = (q9 : Int) := by rw [IntWalk.i64_in _ (by omega)]; omega
          have k1 : (h : Int) ≤ p9 := by omega
          have k2 : (p9 : Int) ≤ a.size := by omega
          have k3 : (h : Int) ≤ q9 := by omega
          have k4 : (q9 : Int) ≤ b.size := by omega
          have HP9 := Lib.hid hp9
          have HQ9 := Lib.hid hq9
          clear hp9 hq9
          go_still_tail 16, (by kernel_rfl)
          change wpList _ _ _ _ _ wq3.drew
          have g0 : wq3.drew.cell? ⟨w.heap.size, 0, none⟩ = some (.int .i64 0) := (hc _ _ z0).trans c0
          have g1 : wq3.drew.cell? ⟨w.heap.size, 1, none⟩ = some (.string { data := #[] }) := (hc _ _ z0).trans c1
          have g2 : wq3.drew.cell? ⟨w.heap.size, 2, none⟩ = some (.string { data := #[] }) := (hc _ _ z0).trans c2
          have g3 : ∀ o, wq3.drew.frozen? ⟨w.heap.size, o, none⟩ = false := fun o => (hf _ o z0).trans (f0 o)
          have hB9 : Below w.heap.size w wq3.drew := below_drewN hB3 1
          generalize wq3.drew = w9 at g0 g1 g2 g3 hB9
          clear hB3 hc hf c0 c1 c2 f0 hs3 hs4 hz
          go_wp2
          refine bodyPost_ret (v := .agg #[.int .i64 h, .string (a.extract h p9), .string (b.extract h q9)]) (by simp [results, Try.results17, go_sem, *]) rfl ?_
          exact ⟨h, t, HD.out, by rw [HP9.out, HQ9.out], ((hB9.setCell (Nat.le_refl _) _).setCell (Nat.le_refl _) _).setCell (Nat.le_refl _) _⟩

set_option maxHeartbeats 2000000 in
theorem refdiff_b (a b : ByteArray) (w : World) (ha : a.size ≤ 281474976710656) (hb : b.size ≤ 281474976710656) (hle : (b.size : Int) < a.size) :
    Calls Try.prog 17 #[.string a, .string b] w (SomeDiff a b w) := by
  obtain ⟨W0, hW0⟩ : ∃ W0, W0 = w.alloc (Obj.cells #[Value.int IntKind.i64 0, Value.string { data := #[] }, Value.string { data := #[] }] 23) := ⟨_, rfl⟩
  have HW0 := Lib.hid hW0
  have b0 : Below w.heap.size w W0 := by rw [hW0]; exact (Below.refl _ _).alloc (Nat.le_refl _) _
  have z0 : w.heap.size < W0.heap.size := by rw [hW0]; simp
  have c0 : W0.cell? ⟨w.heap.size, 0, none⟩ = some (.int .i64 0) := by rw [hW0]; simp
  have c1 : W0.cell? ⟨w.heap.size, 1, none⟩ = some (.string { data := #[] }) := by rw [hW0]; simp
  have c2 : W0.cell? ⟨w.heap.size, 2, none⟩ = some (.string { data := #[] }) := by rw [hW0]; simp
  have f0 : ∀ o, W0.frozen? ⟨w.heap.size, o, none⟩ = false := by intro o; rw [hW0]; simp
  clear hW0
  go_enter Try.func17, Try.ntmps17
  go_wp2
  rw [← HW0.out]
  go_loopw [6] (fun h wr => HdRel a b W0 h wr) (fun h wr => b.size - (intOf h).toNat)
  case atStart => exact ⟨0, rfl, HdInv.zero a b, Below.refl _ _⟩
  case round =>
    obtain ⟨h, rfl, hI, hbel⟩ := hrel
    have HI := Lib.hid hI
    have hA := hI.1
    have hB := hI.2.1
    clear hI
    by_cases hlt : h < b.size
    · have hx : (h : Int) < a.size := by omega
      have hy : (h : Int) < b.size := by omega
      have hx' : h < a.size := by omega
      have hy' : h < b.size := by omega
      by_cases e1 : bt a h = bt b h
      · have t1 : ((a[h].toNat : Int) == (b[h].toNat : Int)) = true := by rw [bt_eq hx', bt_eq hy'] at e1; rw [e1]; simp
        have HE := Lib.hid e1
        clear e1
        go_wp2
        go_quiet (fail)
        go_wp2
        go_roundw
        case rel => exact ⟨h + 1, by go_num, HI.out.step hx' hy' HE.out, below_drewN hbel _⟩
        case measure => simp [intOf]; omega
      · have t1 : ((a[h].toNat : Int) == (b[h].toNat : Int)) = false := by
          rw [bt_eq hx', bt_eq hy'] at e1
          rw [beq_eq_false_iff_ne]
          intro g
          exact e1 (UInt8.toNat_inj.1 (by omega))
        have HE : Hid (h < a.size → h < b.size → bt a h ≠ bt b h) := Lib.hid fun _ _ => e1
        clear e1
        go_wp2
        go_quiet (fail)
        go_wp2
        have hbel1 := below_drewN hbel nq
        generalize wr.drewN nq = wq at hbel1
        clear hbel
        go_loopw [7] (fun t wr => TlRel a b h W0 t wr) (fun t wr => b.size - (intOf t).toNat)
        case atStart => exact ⟨0, rfl, TlInv.zero HI.out, hbel1⟩
        case round =>
          obtain ⟨t, rfl, hJ, hbel2⟩ := hrel
          have HJ := Lib.hid hJ
          have hA2 := hJ.1
          have hB2 := hJ.2.1
          clear hJ hbel1
          have hq0 : IntKind.i64.wrap ((b.size : Int) - h) = (b.size : Int) - h := IntWalk.i64_in _ (by omega)
          by_cases hlt2 : h + t < b.size
          · have hg : decide ((t : Int) < (b.size : Int) - h) = true := by simp; omega
            have hq1 : IntKind.i64.wrap ((a.size : Int) - 1) = (a.size : Int) - 1 := IntWalk.i64_in _ (by omega)
            have hq2 : IntKind.i64.wrap ((b.size : Int) - 1) = (b.size : Int) - 1 := IntWalk.i64_in _ (by omega)
            obtain ⟨p, hp⟩ : ∃ p, p = a.size - 1 - t := ⟨_, rfl⟩
            obtain ⟨q, hq⟩ : ∃ q, q = b.size - 1 - t := ⟨_, rfl⟩
            have hpl : (p : Int) < a.size := by omega
            have hql : (q : Int) < b.size := by omega
            have hpl' : p < a.size := by omega
            have hql' : q < b.size := by omega
            have hq3 : IntKind.i64.wrap ((a.size : Int) - 1 - t) = (p : Int) := by rw [IntWalk.i64_in _ (by omega)]; omega
            have hq4 : IntKind.i64.wrap ((b.size : Int) - 1 - t) = (q : Int) := by rw [IntWalk.i64_in _ (by omega)]; omega
            have HP := Lib.hid hp
            have HQ := Lib.hid hq
            clear hp hq
            by_cases e2 : bt a p = bt b q
            · have t2 : ((a[p].toNat : Int) == (b[q].toNat : Int)) = true := by rw [bt_eq hpl', bt_eq hql'] at e2; rw [e2]; simp
              have HE2 := Lib.hid e2
              clear e2
              go_wp2
              go_quiet (fail)
              clear hq0 hq1 hq2 hq3 hq4
              go_wp2
              go_roundw
              case rel => exact ⟨t + 1, by go_num, HJ.out.step (by omega) (by omega) (by have := HE2.out; rw [HP.out, HQ.out] at this; exact this), below_drewN hbel2 _⟩
              case measure => simp [intOf]; omega
            · have t2 : ((a[p].toNat : Int) == (b[q].toNat : Int)) = false := by
                rw [bt_eq hpl', bt_eq hql'] at e2
                rw [beq_eq_false_iff_ne]
                intro g
                exact e2 (UInt8.toNat_inj.1 (by omega))
              have HE2 : Hid (h + t < a.size → h + t < b.size → bt a (a.size - 1 - t) ≠ bt b (b.size - 1 - t)) := Lib.hid fun _ _ => by rw [← HP.out, ← HQ.out]; exact e2
              clear e2
              go_wp2
              go_quiet (fail)
              clear hq0 hq1 hq2 hq3 hq4
              go_wp2
              have hD := isDiff_of HI.out HJ.out HE.out HE2.out
              have HD := Lib.hid hD
              clear hD
              have hbel3 := below_drewN hbel2 nq
              generalize wr.drewN nq = wq3 at hbel3
              clear hbel2
              obtain ⟨hc, hf⟩ := bcell hbel3
              have hz := hbel3.size
              have hB3 := b0.trans (hbel3.mono (by omega))
              clear hbel3
              obtain ⟨p9, hp9⟩ : ∃ p, p = a.size - t := ⟨_, rfl⟩
              obtain ⟨q9, hq9⟩ : ∃ q, q = b.size - t := ⟨_, rfl⟩
              have hs3 : IntKind.i64.wrap ((a.size : Int) - t) = (p9 : Int) := by rw [IntWalk.i64_in _ (by omega)]; omega
              have hs4 : IntKind.i64.wrap ((b.size : Int) - t) = (q9 : Int) := by rw [IntWalk.i64_in _ (by omega)]; omega
              have k1 : (h : Int) ≤ p9 := by omega
              have k2 : (p9 : Int) ≤ a.size := by omega
              have k3 : (h : Int) ≤ q9 := by omega
              have k4 : (q9 : Int) ≤ b.size := by omega
              have HP9 := Lib.hid hp9
              have HQ9 := Lib.hid hq9
              clear hp9 hq9
              go_still_tail 16, (by kernel_rfl)
              change wpList _ _ _ _ _ wq3.drew
              have g0 : wq3.drew.cell? ⟨w.heap.size, 0, none⟩ = some (.int .i64 0) := (hc _ _ z0).trans c0
              have g1 : wq3.drew.cell? ⟨w.heap.size, 1, none⟩ = some (.string { data := #[] }) := (hc _ _ z0).trans c1
              have g2 : wq3.drew.cell? ⟨w.heap.size, 2, none⟩ = some (.string { data := #[] }) := (hc _ _ z0).trans c2
              have g3 : ∀ o, wq3.drew.frozen? ⟨w.heap.size, o, none⟩ = false := fun o => (hf _ o z0).trans (f0 o)
              have hB9 : Below w.heap.size w wq3.drew := below_drewN hB3 1
              generalize wq3.drew = w9 at g0 g1 g2 g3 hB9
              clear hB3 hc hf c0 c1 c2 f0 hs3 hs4 hz
              go_wp2
              refine bodyPost_ret (v := .agg #[.int .i64 h, .string (a.extract h p9), .string (b.extract h q9)]) (by simp [results, Try.results17, go_sem, *]) rfl ?_
              exact ⟨h, t, HD.out, by rw [HP9.out, HQ9.out], ((hB9.setCell (Nat.le_refl _) _).setCell (Nat.le_refl _) _).setCell (Nat.le_refl _) _⟩
          · have hg : decide ((t : Int) < (b.size : Int) - h) = false := by simp; omega
            have HE2 : Hid (h + t < a.size → h + t < b.size → bt a (a.size - 1 - t) ≠ bt b (b.size - 1 - t)) := Lib.hid fun _ _ => by omega
            go_wp2
            go_quiet (fail)
            clear hq0
            go_wp2
            have hD := isDiff_of HI.out HJ.out HE.out HE2.out
            have HD := Lib.hid hD
            clear hD
            have hbel3 := below_drewN hbel2 nq
            generalize wr.drewN nq = wq3 at hbel3
            clear hbel2
            obtain ⟨hc, hf⟩ := bcell hbel3
            have hz := hbel3.size
            have hB3 := b0.trans (hbel3.mono (by omega))
            clear hbel3
            obtain ⟨p9, hp9⟩ : ∃ p, p = a.size - t := ⟨_, rfl⟩
            obtain ⟨q9, hq9⟩ : ∃ q, q = b.size - t := ⟨_, rfl⟩
            have hs3 : IntKind.i64.wrap ((a.size : Int) - t) = (p9 : Int) := by rw [IntWalk.i64_in _ (by omega)]; omega
            have hs4 : IntKind.i64.wrap ((b.size : Int) - t) = (q9 : Int) := by rw [IntWalk.i64_in _ (by omega)]; omega
            have k1 : (h : Int) ≤ p9 := by omega
            have k2 : (p9 : Int) ≤ a.size := by omega
            have k3 : (h : Int) ≤ q9 := by omega
            have k4 : (q9 : Int) ≤ b.size := by omega
            have HP9 := Lib.hid hp9
            have HQ9 := Lib.hid hq9
            clear hp9 hq9
            go_still_tail 16, (by kernel_rfl)
            change wpList _ _ _ _ _ wq3.drew
            have g0 : wq3.drew.cell? ⟨w.heap.size, 0, none⟩ = some (.int .i64 0) := (hc _ _ z0).trans c0
            have g1 : wq3.drew.cell? ⟨w.heap.size, 1, none⟩ = some (.string { data := #[] }) := (hc _ _ z0).trans c1
            have g2 : wq3.drew.cell? ⟨w.heap.size, 2, none⟩ = some (.string { data := #[] }) := (hc _ _ z0).trans c2
            have g3 : ∀ o, wq3.drew.frozen? ⟨w.heap.size, o, none⟩ = false := fun o => (hf _ o z0).trans (f0 o)
            have hB9 : Below w.heap.size w wq3.drew := below_drewN hB3 1
            generalize wq3.drew = w9 at g0 g1 g2 g3 hB9
            clear hB3 hc hf c0 c1 c2 f0 hs3 hs4 hz
            go_wp2
            refine bodyPost_ret (v := .agg #[.int .i64 h, .string (a.extract h p9), .string (b.extract h q9)]) (by simp [results, Try.results17, go_sem, *]) rfl ?_
            exact ⟨h, t, HD.out, by rw [HP9.out, HQ9.out], ((hB9.setCell (Nat.le_refl _) _).setCell (Nat.le_refl _) _).setCell (Nat.le_refl _) _⟩
    · have hd : decide (h < b.size) = false := by simpa using hlt
      have HE : Hid (h < a.size → h < b.size → bt a h ≠ bt b h) := Lib.hid fun _ _ => by omega
      go_wp2
      go_quiet (fail)
      go_wp2
      have hbel1 := below_drewN hbel nq
      generalize wr.drewN nq = wq at hbel1
      clear hbel
      go_loopw [7] (fun t wr => TlRel a b h W0 t wr) (fun t wr => b.size - (intOf t).toNat)
      case atStart => exact ⟨0, rfl, TlInv.zero HI.out, hbel1⟩
      case round =>
        obtain ⟨t, rfl, hJ, hbel2⟩ := hrel
        have HJ := Lib.hid hJ
        have hA2 := hJ.1
        have hB2 := hJ.2.1
        clear hJ hbel1
        have hq0 : IntKind.i64.wrap ((b.size : Int) - h) = (b.size : Int) - h := IntWalk.i64_in _ (by omega)
        by_cases hlt2 : h + t < b.size
        · exfalso; omega
        · have hg : decide ((t : Int) < (b.size : Int) - h) = false := by simp; omega
          have HE2 : Hid (h + t < a.size → h + t < b.size → bt a (a.size - 1 - t) ≠ bt b (b.size - 1 - t)) := Lib.hid fun _ _ => by omega
          go_wp2
          go_quiet (fail)
          clear hq0
          go_wp2
          have hD := isDiff_of HI.out HJ.out HE.out HE2.out
          have HD := Lib.hid hD
          clear hD
          have hbel3 := below_drewN hbel2 nq
          generalize wr.drewN nq = wq3 at hbel3
          clear hbel2
          obtain ⟨hc, hf⟩ := bcell hbel3
          have hz := hbel3.size
          have hB3 := b0.trans (hbel3.mono (by omega))
          clear hbel3
          obtain ⟨p9, hp9⟩ : ∃ p, p = a.size - t := ⟨_, rfl⟩
          obtain ⟨q9, hq9⟩ : ∃ q, q = b.size - t := ⟨_, rfl⟩
          have hs3 : IntKind.i64.wrap ((a.size : Int) - t) = (p9 : Int) := by rw [IntWalk.i64_in _ (by omega)]; omega
          have hs4 : IntKind.i64.wrap ((b.size : Int) - t) = (q9 : Int) := by rw [IntWalk.i64_in _ (by omega)]; omega
          have k1 : (h : Int) ≤ p9 := by omega
          have k2 : (p9 : Int) ≤ a.size := by omega
          have k3 : (h : Int) ≤ q9 := by omega
          have k4 : (q9 : Int) ≤ b.size := by omega
          have HP9 := Lib.hid hp9
          have HQ9 := Lib.hid hq9
          clear hp9 hq9
          go_still_tail 16, (by kernel_rfl)
          change wpList _ _ _ _ _ wq3.drew
          have g0 : wq3.drew.cell? ⟨w.heap.size, 0, none⟩ = some (.int .i64 0) := (hc _ _ z0).trans c0
          have g1 : wq3.drew.cell? ⟨w.heap.size, 1, none⟩ = some (.string { data := #[] }) := (hc _ _ z0).trans c1
          have g2 : wq3.drew.cell? ⟨w.heap.size, 2, none⟩ = some (.string { data := #[] }) := (hc _ _ z0).trans c2
          have g3 : ∀ o, wq3.drew.frozen? ⟨w.heap.size, o, none⟩ = false := fun o => (hf _ o z0).trans (f0 o)
          have hB9 : Below w.heap.size w wq3.drew := below_drewN hB3 1
          generalize wq3.drew = w9 at g0 g1 g2 g3 hB9
          clear hB3 hc hf c0 c1 c2 f0 hs3 hs4 hz
          go_wp2
          refine bodyPost_ret (v := .agg #[.int .i64 h, .string (a.extract h p9), .string (b.extract h q9)]) (by simp [results, Try.results17, go_sem, *]) rfl ?_
          exact ⟨h, t, HD.out, by rw [HP9.out, HQ9.out], ((hB9.setCell (Nat.le_refl _) _).setCell (Nat.le_refl _) _).setCell (Nat.le_refl _) _⟩

theorem refdiff_any (a b : ByteArray) (w : World) (ha : a.size ≤ 281474976710656) (hb : b.size ≤ 281474976710656) :
    Calls Try.prog 17 #[.string a, .string b] w (SomeDiff a b w) := by
  by_cases h : a.size ≤ b.size
  · exact refdiff_a a b w ha hb h
  · exact refdiff_b a b w ha hb (by omega)
end Go.Proofs.Ytjickhgkhcojgaa

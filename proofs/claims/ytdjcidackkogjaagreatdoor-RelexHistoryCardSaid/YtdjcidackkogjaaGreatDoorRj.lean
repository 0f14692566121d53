/- What the leaf functions of layer 1 (edit) and the document's own answers return, call by call, as the walk of their text shows it: conditions: each text at most 2^48 bytes.
What Diff of layer 1 (edit) returns, in this seat; conditions: each text at most 2^48 bytes. -/
import Derived.Test.YtdjcidackkogjaaGreatDoorRows
import Derived.Test.YtdjcidackkogjaaGreatDoorQa
import Derived.Test.YtdjcidackkogjaaGreatDoorQb
import Derived.Test.YtdjcidackkogjaaGreatDoorMdB
import Derived.WalkKit
import Derived.WalkSpells
import Derived.WalkLawsBesides
import Derived.Deep.QuietTactic
import Derived.BigQuiet
import Derived.Lib.Hide
import Derived.WalkSmall
import Derived.IntWalk
import Derived.Test.YtdjcidackkogjaaGreatDoorTkL
import Derived.WalkMore
import Derived.StillTailTactics
namespace Go.Proofs.YtdjcidackkogjaaGreatDoor
open Go.RowKit
set_option linter.unusedVariables false

theorem below_new {w w1 : World} (o : Obj) (h : Below (w.alloc o).heap.size (w.alloc o) w1) : Below w.heap.size w w1 :=
  ((Below.refl _ _).alloc (Nat.le_refl _) o).trans (h.mono (by simp))

set_option maxHeartbeats 400000 in
theorem hp_any (s t : ByteArray) (w : World) (hs : s.size ≤ 281474976710656) (ht : t.size ≤ 281474976710656) :
    Calls Tryz.prog 65 #[.string s, .string t] w fun e w' => e = .returned (.bool (hpB s t)) ∧ w' = w := by
  by_cases h : t.size ≤ s.size
  · have hd : decide (t.size ≤ s.size) = true := by simpa using h
    have hi : (t.size : Int) ≤ s.size := by omega
    go_enter Tryz.func65, Tryz.ntmps65
    go_wp2
    go_ret
    refine ⟨?_, rfl⟩
    show Ending.returned (Value.bool ((s.extract 0 t.size).toList == t.toList)) = _
    rw [bs_eqb]
    unfold hpB
    simp [h]
  · have hd : decide (t.size ≤ s.size) = false := by simpa using h
    have hi : ¬ (t.size : Int) ≤ s.size := by omega
    go_enter Tryz.func65, Tryz.ntmps65
    go_wp2
    go_ret
    refine ⟨?_, rfl⟩
    show Ending.returned (Value.bool false) = _
    unfold hpB
    simp [h]

def roomN (z del ins : Int) : Int := if 1048576 < z - del + ins then 2 else 0
set_option maxHeartbeats 400000 in
theorem room_any (s : ByteArray) (a b : Int) (w : World) (hs : s.size ≤ 281474976710656) (ha : 0 ≤ a) (ha' : a ≤ 281474976710656) (hb : 0 ≤ b) (hb' : b ≤ 281474976710656) :
    Calls Tryz.prog 66 #[.string s, .int .i64 a, .int .i64 b] w fun e w' => e = .returned (.int .i64 (roomN s.size a b)) ∧ w' = w := by
  go_enter Tryz.func66, Tryz.ntmps66
  go_wp2
  · have h : 1048576 < (s.size : Int) - a + b := by assumption
    go_ret
    exact ⟨ret_int (by unfold roomN; rw [if_pos h]), rfl⟩
  · have h : (s.size : Int) - a + b ≤ 1048576 := by assumption
    go_ret
    exact ⟨ret_int (by unfold roomN; rw [if_neg (by omega)]), rfl⟩

section wrong
variable (s d n : ByteArray) (w : World)
end wrong

section refdo
end refdo

section fault
variable (s d n : ByteArray) (w : World)
set_option maxHeartbeats 400000 in
theorem fault_1 (a : Int) (h : a < 0) :
    Calls Tryz.prog 41 #[.string s, .agg #[.int .i64 a, .string d, .string n]] w fun e w' => e = .returned (.int .i64 1) ∧ Below w.heap.size w w' := by
  have hd : decide (a < 0) = true := by simpa using h
  go_enter Tryz.func41, Tryz.ntmps41
  go_wp2
  go_quiet (fail)
  go_wp2
  go_ret
  exact ⟨rfl, below_drewN ((Below.refl _ _).alloc (Nat.le_refl _) _) _⟩
set_option maxHeartbeats 400000 in
theorem fault_2 (a : Int) (h : 0 ≤ a) (h2 : (s.size : Int) < a) :
    Calls Tryz.prog 41 #[.string s, .agg #[.int .i64 a, .string d, .string n]] w fun e w' => e = .returned (.int .i64 1) ∧ Below w.heap.size w w' := by
  have hd : decide (a < 0) = false := by simpa using h
  have hd2 : decide ((s.size : Int) < a) = true := by simpa using h2
  go_enter Tryz.func41, Tryz.ntmps41
  go_wp2
  go_quiet (fail)
  go_wp2
  go_ret
  exact ⟨rfl, below_drewN ((Below.refl _ _).alloc (Nat.le_refl _) _) _⟩
set_option maxHeartbeats 400000 in
theorem fault_3 (a : Nat) (h2 : (a : Int) ≤ s.size) (hs : s.size ≤ 281474976710656) (hds : d.size ≤ 281474976710656) (hns : n.size ≤ 281474976710656) :
    Calls Tryz.prog 41 #[.string s, .agg #[.int .i64 a, .string d, .string n]] w fun e w' => e = .returned (.int .i64 (wrongN s a d n)) ∧ Below w.heap.size w w' := by
  have hd : decide ((a : Int) < 0) = false := by simp
  have hd2 : decide (s.size < a) = false := by simp; omega
  have hx : (s.extract a s.size).size ≤ 281474976710656 := by simp; omega
  have hH := fits_hp s d a (by omega)
  have hE : wrongN s a d n = if ¬ fits s a d then 1 else roomN s.size d.size n.size := by
    unfold wrongN roomN
    by_cases hf : fits s a d
    · rw [if_neg (show ¬ ((a : Int) < 0 ∨ (s.size : Int) < (a : Int) ∨ ¬ fits s ((a : Int)).toNat d) from by
        rintro (h | h | h)
        · omega
        · omega
        · exact h hf), if_neg (Classical.not_not.2 hf)]
    · rw [if_pos (.inr (.inr (by simpa using hf))), if_pos hf]
  by_cases hf : fits s a d
  · have ht : hpB (s.extract a s.size) d = true := by rw [hH]; simpa using hf
    rw [hE, if_neg (by simp [hf])]
    clear hE hH
    go_enter Tryz.func41, Tryz.ntmps41
    go_wp2
    go_quiet ((go_at_call 65; exact Calls.quiet_of_same (hp_any _ _ _ hx hds)))
    go_wp2_with (go_at_call 66; refine (room_any _ _ _ _ hs (by omega) (by omega) (by omega) (by omega)).mono ?_; rintro e w' ⟨rfl, rfl⟩)
    go_ret
    exact ⟨rfl, below_drewN ((Below.refl _ _).alloc (Nat.le_refl _) _) _⟩
  · have ht : hpB (s.extract a s.size) d = false := by rw [hH]; simpa using hf
    rw [hE, if_pos hf]
    clear hE hH
    go_enter Tryz.func41, Tryz.ntmps41
    go_wp2
    go_quiet ((go_at_call 65; exact Calls.quiet_of_same (hp_any _ _ _ hx hds)))
    go_wp2
    go_ret
    exact ⟨rfl, below_drewN ((Below.refl _ _).alloc (Nat.le_refl _) _) _⟩
theorem fault_any (a : Int) (hs : s.size ≤ 281474976710656) (hds : d.size ≤ 281474976710656) (hns : n.size ≤ 281474976710656) :
    Calls Tryz.prog 41 #[.string s, .agg #[.int .i64 a, .string d, .string n]] w fun e w' => e = .returned (.int .i64 (wrongN s a d n)) ∧ Below w.heap.size w w' := by
  by_cases h : a < 0
  · refine (fault_1 s d n w a h).mono fun e w' ⟨he, hw⟩ => ⟨?_, hw⟩
    rw [he]; exact ret_int (by unfold wrongN; rw [if_pos (.inl h)])
  · by_cases h2 : (s.size : Int) < a
    · refine (fault_2 s d n w a (by omega) h2).mono fun e w' ⟨he, hw⟩ => ⟨?_, hw⟩
      rw [he]; exact ret_int (by unfold wrongN; rw [if_pos (.inr (.inl h2))])
    · obtain ⟨k, rfl⟩ := Int.eq_ofNat_of_zero_le (by omega : 0 ≤ a)
      exact fault_3 s d n w k (by omega) hs hds hns
theorem fault_eq (a : Int) (k : Int) (hk : wrongN s a d n = k) (hs : s.size ≤ 281474976710656) (hds : d.size ≤ 281474976710656) (hns : n.size ≤ 281474976710656) :
    Calls Tryz.prog 41 #[.string s, .agg #[.int .i64 a, .string d, .string n]] w fun e w' => e = .returned (.int .i64 k) ∧ Below w.heap.size w w' := by
  rw [← hk]; exact fault_any s d n w a hs hds hns
end fault


section
variable (s d n : ByteArray) (w : World)
set_option maxHeartbeats 400000 in
theorem do_bad (a : Int) (k : Int) (h : wrongN s a d n = k) (h0 : k ≠ 0) (hs : s.size ≤ 281474976710656) (hds : d.size ≤ 281474976710656) (hns : n.size ≤ 281474976710656) :
    Calls Tryz.prog 29 #[.string s, .agg #[.int .i64 a, .string d, .string n]] w fun e w' => e = .returned (.tuple #[.string ⟨#[]⟩, .int .i64 k]) ∧ Below w.heap.size w w' := by
  have H := Lib.hid h
  clear h
  have h0' : (k == 0) = false := by simpa using h0
  go_enter Tryz.func29, Tryz.ntmps29
  go_wp2_with (go_at_call 41; refine (fault_eq s d n _ a _ H.out hs hds hns).mono ?_; rintro e w1 ⟨rfl, hb⟩)
  go_ret2
  exact ⟨rfl, below_new _ hb⟩

set_option maxHeartbeats 400000 in
theorem do_ok (a : Nat) (h : wrongN s a d n = 0) (hs : s.size ≤ 281474976710656) (hds : d.size ≤ 281474976710656) (hns : n.size ≤ 281474976710656) :
    Calls Tryz.prog 29 #[.string s, .agg #[.int .i64 a, .string d, .string n]] w fun e w' => e = .returned (.tuple #[.string (doB s a d n), .int .i64 0]) ∧ Below w.heap.size w w' := by
  have hf := (wrongN_0 h).2.2.1.1
  simp only [Int.toNat_natCast] at hf
  have e0 : ¬ (s.extract 0 a).size + n.size > 9223372036854775807 := by simp; omega
  have e1 : ¬ (s.extract 0 a ++ n).size + (s.extract (a + d.size) s.size).size > 9223372036854775807 := by simp; omega
  have hl : (a : Int) ≤ s.size := by omega
  have h2 : (a : Int) + d.size ≤ s.size := by omega
  have H := Lib.hid h
  clear h hf
  go_enter Tryz.func29, Tryz.ntmps29
  go_wp2_with (go_at_call 41; refine (fault_eq s d n _ a _ H.out hs hds hns).mono ?_; rintro e w1 ⟨rfl, hb⟩; obtain ⟨hc, hfr⟩ := bcell hb)
  go_quiet (fail)
  go_wp2
  go_ret2
  exact ⟨rfl, below_drewN (below_new _ hb) _⟩

set_option maxHeartbeats 400000 in
theorem inverse_any (a : Int) :
    Calls Tryz.prog 27 #[.agg #[.int .i64 a, .string d, .string n]] w fun e w' => e = .returned (.agg #[.int .i64 a, .string n, .string d]) ∧ Below w.heap.size w w' := by
  go_enter Tryz.func27, Tryz.ntmps27
  go_wp2
  exact bodyPost_ret (v := .agg #[.int .i64 a, .string n, .string d]) (by simp [results, Tryz.results27, go_sem]) rfl ⟨rfl, (((Below.refl _ _).alloc (Nat.le_refl _) _).alloc (by simp) _)⟩
end

end Go.Proofs.YtdjcidackkogjaaGreatDoor
namespace Go.Proofs.YtdjcidackkogjaaGreatDoor
open Go.RowKit
set_option linter.unusedVariables false

set_option maxHeartbeats 400000 in
theorem ecut_any (s : ByteArray) (i j : Nat) (w : World) (hs : s.size ≤ 281474976710656) (hij : (i : Int) ≤ j) (hj : (j : Int) ≤ s.size) :
    Calls Tryz.prog 40 #[.string s, .int .i64 i, .int .i64 j] w fun e w' => e = .returned (.string (s.extract i j)) ∧ Below w.heap.size w w' := by
  have hx : (s.extract i j).size ≤ 281474976710656 := by simp; omega
  go_enter Tryz.func40, Tryz.ntmps40
  go_wp2_with (go_at_call 33; refine (tclone_any _ _ hx).mono ?_; rintro e w1 ⟨rfl, hb⟩)
  go_ret
  exact ⟨rfl, hb⟩
def SomeHT (a b : ByteArray) (w : World) (e : Ending) (w' : World) : Prop := ∃ h t : Nat, IsDiff a b h t ∧ e = .returned (.tuple #[.int .i64 h, .int .i64 t]) ∧ Below w.heap.size w w'
def AlRel (a b : ByteArray) (w : World) (vh vt : Value) (wr : World) : Prop := ∃ h t : Nat, vh = .int .i64 h ∧ vt = .int .i64 t ∧ AlInv a b h t ∧ Below w.heap.size w wr

set_option maxHeartbeats 1000000 in
theorem alike_any (a b : ByteArray) (w : World) (ha : a.size ≤ 281474976710656) (hb : b.size ≤ 281474976710656) :
    Calls Tryz.prog 39 #[.string a, .string b] w (SomeHT a b w) := by
  go_enter Tryz.func39, Tryz.ntmps39
  go_wp2
  go_step3
  go_wp2
  go_step3
  go_wp2
  go_loopw [4, 5] (fun h t wr => AlRel a b w h t wr) (fun h t wr => a.size - (intOf h).toNat - (intOf t).toNat)
  case atStart => exact ⟨0, 0, rfl, rfl, AlInv.zero a b, Below.refl _ _⟩
  case round =>
    obtain ⟨h, t, rfl, rfl, hI, hbel⟩ := hrel
    have HI := Lib.hid hI
    have hA := hI.1
    have hB := hI.2.1
    clear hI
    by_cases hlt : (h : Int) + t < min (a.size : Int) b.size
    · have hx : (h : Int) < a.size := by omega
      have hy : (h : Int) < b.size := by omega
      have hx' : h < a.size := by omega
      have hy' : h < b.size := by omega
      have hq1 : IntKind.i64.wrap ((a.size : Int) - 1) = (a.size : Int) - 1 := IntWalk.i64_in _ (by omega)
      have hq2 : IntKind.i64.wrap ((b.size : Int) - 1) = (b.size : Int) - 1 := IntWalk.i64_in _ (by omega)
      obtain ⟨p, hp⟩ : ∃ p, p = a.size - 1 - t := ⟨_, rfl⟩
      obtain ⟨q, hq⟩ : ∃ q, q = b.size - 1 - t := ⟨_, rfl⟩
      have hpl : (p : Int) < a.size := by omega
      have hql : (q : Int) < b.size := by omega
      have hpl' : p < a.size := by omega
      have hql' : q < b.size := by omega
      have hq3 : IntKind.i64.wrap ((a.size : Int) - 1 - t) = (p : Int) := by rw [IntWalk.i64_in _ (by omega)]; omega
      have hq4 : IntKind.i64.wrap ((b.size : Int) - 1 - t) = (q : Int) := by rw [IntWalk.i64_in _ (by omega)]; omega
      have HP := Lib.hid hp
      have HQ := Lib.hid hq
      clear hp hq
      by_cases e1 : bt a h = bt b h
      · have t1 : ((a[h].toNat : Int) == (b[h].toNat : Int)) = true := by rw [bt_eq hx', bt_eq hy'] at e1; rw [e1]; simp
        have HE := Lib.hid e1
        clear e1
        go_wp2
        go_quiet (fail)
        go_wp2
        go_roundw
        case rel => exact ⟨h + 1, t, by go_num, rfl, HI.out.stepA (by omega) (by omega) HE.out, below_drewN hbel _⟩
        case measure => simp [intOf]; omega
      · have t1 : ((a[h].toNat : Int) == (b[h].toNat : Int)) = false := by
          rw [bt_eq hx', bt_eq hy'] at e1
          rw [beq_eq_false_iff_ne]
          intro g
          exact e1 (UInt8.toNat_inj.1 (by omega))
        have HE := Lib.hid e1
        clear e1
        by_cases e2 : bt a p = bt b q
        · have t2 : ((a[p].toNat : Int) == (b[q].toNat : Int)) = true := by rw [bt_eq hpl', bt_eq hql'] at e2; rw [e2]; simp
          have HE2 := Lib.hid e2
          clear e2
          go_wp2
          go_quiet (fail)
          go_wp2
          go_quiet (fail)
          clear hq1 hq2 hq3 hq4
          go_wp2
          go_roundw
          case rel => exact ⟨h, t + 1, rfl, by go_num, HI.out.stepB (by omega) (by omega) HE.out (by have := HE2.out; rw [HP.out, HQ.out] at this; exact this), below_drewN hbel _⟩
          case measure => simp [intOf]; omega
        · have t2 : ((a[p].toNat : Int) == (b[q].toNat : Int)) = false := by
            rw [bt_eq hpl', bt_eq hql'] at e2
            rw [beq_eq_false_iff_ne]
            intro g
            exact e2 (UInt8.toNat_inj.1 (by omega))
          have HE2 := Lib.hid e2
          clear e2
          go_wp2
          go_quiet (fail)
          go_wp2
          go_quiet (fail)
          clear hq1 hq2 hq3 hq4
          go_wp2
          try rw [Exit.noGoto_ret]
          go_ret2
          exact ⟨h, t, HI.out.endC HE.out (by have := HE2.out; rw [HP.out, HQ.out] at this; exact this), rfl, below_drewN (below_drewN hbel _) _⟩
    · go_wp2
      try rw [Exit.noGoto_ret]
      go_ret2
      exact ⟨h, t, HI.out.endD (by omega), rfl, hbel⟩

def SomeDiff (a b : ByteArray) (w : World) (e : Ending) (w' : World) : Prop :=
  ∃ h t : Nat, IsDiff a b h t ∧ e = .returned (.agg #[.int .i64 h, .string (a.extract h (a.size - t)), .string (b.extract h (b.size - t))]) ∧ Below w.heap.size w w'

set_option maxHeartbeats 400000 in
theorem diff_any (a b : ByteArray) (w : World) (ha : a.size ≤ 281474976710656) (hb : b.size ≤ 281474976710656) :
    Calls Tryz.prog 24 #[.string a, .string b] w (SomeDiff a b w) := by
  go_enter Tryz.func24, Tryz.ntmps24
  go_wp2_with fail
  refine (alike_any a b _ ha hb).mono ?_
  rintro e w1 ⟨h, t, hD, rfl, hb1⟩
  have HD := Lib.hid hD
  have hA := hD.1
  have hB := hD.2.1
  clear hD
  obtain ⟨p, hp⟩ : ∃ p, p = a.size - t := ⟨_, rfl⟩
  obtain ⟨q, hq⟩ : ∃ q, q = b.size - t := ⟨_, rfl⟩
  have hq3 : (a.size : Int) - t = (p : Int) := by omega
  have hq4 : (b.size : Int) - t = (q : Int) := by omega
  have h1 : (h : Int) ≤ p := by omega
  have h2 : (p : Int) ≤ a.size := by omega
  have h3 : (h : Int) ≤ q := by omega
  have h4 : (q : Int) ≤ b.size := by omega
  have HP := Lib.hid hp
  have HQ := Lib.hid hq
  clear hp hq
  go_wp2_with fail
  refine (ecut_any a h p _ ha h1 h2).mono ?_
  rintro e w2 ⟨rfl, hb2⟩
  go_wp2_with fail
  refine (ecut_any b h q _ hb h3 h4).mono ?_
  rintro e w3 ⟨rfl, hb3⟩
  obtain ⟨hc1, hf1⟩ := bcell hb1
  have hz1 : w.heap.size < w1.heap.size := by have := hb1.size; simp at this; omega
  obtain ⟨hc2, hf2⟩ := bcell hb2
  have hz2 : w.heap.size < w2.heap.size := by have := hb2.size; omega
  obtain ⟨hc3, hf3⟩ := bcell hb3
  have hz3 : w.heap.size < w3.heap.size := by have := hb3.size; omega
  have hB3 : Below w.heap.size w w3 := (below_new _ hb1).trans ((hb2.mono (by omega)).trans (hb3.mono (by omega)))
  clear hb1 hb2 hb3 hq3 hq4
  go_wp2
  refine bodyPost_ret (v := .agg #[.int .i64 h, .string (a.extract h p), .string (b.extract h q)]) (by simp [results, Tryz.results24, go_sem, *]) rfl ?_
  exact ⟨h, t, HD.out, by rw [HP.out, HQ.out], ((hB3.setCell (Nat.le_refl _) _).setCell (Nat.le_refl _) _).setCell (Nat.le_refl _) _⟩


end Go.Proofs.YtdjcidackkogjaaGreatDoor

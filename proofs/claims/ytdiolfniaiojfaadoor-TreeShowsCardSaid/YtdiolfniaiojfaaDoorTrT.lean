/- What a reader's take, letter, number and node of layer 11 (tree) return. Condition: texts of at most 100,000 bytes. -/
import Derived.Test.YtdiolfniaiojfaaDoorTrR
import Derived.Test.YtdiolfniaiojfaaDoorTrI
import Derived.Test.YtdiolfniaiojfaaDoorTrA
namespace Go.Proofs.YtdiolfniaiojfaaDoor
open Go.RowKit
set_option linter.unusedVariables false

theorem by_eq {s : ByteArray} {k : Nat} {c : Nat} (h : k < s.size) (e : (bt s k).toNat = c) : ((s[k].toNat : Int) != (c : Int)) = false := by
  rw [bt_eq h] at e; rw [e]; simp
theorem by_ne {s : ByteArray} {k : Nat} {c : Nat} (h : k < s.size) (e : (bt s k).toNat ≠ c) : ((s[k].toNat : Int) != (c : Int)) = true := by
  rw [bt_eq h] at e
  simp
  omega
/-- A reader in memory. -/
def rdC (s : ByteArray) (a : Nat) (v : Value) : Array Value := #[.string s, .int .i64 (a : Int), v]

section
variable (w : World)
theorem take_yes (R : Nat) (s : ByteArray) (a : Nat) (v : Value) (c : Nat) (hR : Blk w R (rdC s a v) 49) (hs : s.size ≤ 100000) (hc : (bt s a).toNat = c) (hc0 : c ≠ 0) :
    Calls Tryd.prog 25 #[.pointer (some ⟨R, 0, none⟩), .int .u8 (c : Int)] w fun e w' => e = .returned (.bool true) ∧ Blk w' R (rdC s (a + 1) v) 49 ∧ Frm (fun b => b = R) w w' := by
  have hlt : a < s.size := bt_lt (by omega)
  have h0 : w.cell? ⟨R, 0, none⟩ = some (.string s) := hR.cell 0
  have h1 : w.cell? ⟨R, 1, none⟩ = some (.int .i64 (a : Int)) := hR.cell 1
  have t1 : ((a : Int) == (s.size : Int)) = false := by simp; omega
  have t2 := by_eq hlt hc
  have HR := Lib.hid hR
  clear hR hc
  go_enter Tryd.func25, Tryd.ntmps25
  go_wp2
  go_quiet (fail)
  obtain ⟨V, hV⟩ : ∃ V, V = w.drewN nq := ⟨_, rfl⟩
  have hRV : Blk V R (rdC s a v) 49 := by rw [hV]; exact HR.out.drewN _
  have hFV : Frm (fun b => b = R) w V := by rw [hV]; exact (Frm.refl _ _).drewN _
  have f1 : V.cell? ⟨R, 1, none⟩ = some (.int .i64 (a : Int)) := hRV.cell 1
  have z1 : V.frozen? ⟨R, 1, none⟩ = false := hRV.frozen 1
  rw [← hV]
  have HRV := Lib.hid hRV
  clear hV h0 h1 hRV
  go_wp2
  go_ret
  refine ⟨rfl, ?_, hFV.put 1 _⟩
  have := HRV.out.set 1 (.int .i64 ((a : Int) + 1))
  simpa [rdC] using this
theorem take_no (R : Nat) (s : ByteArray) (a : Nat) (v : Value) (c : Nat) (hR : Blk w R (rdC s a v) 49) (hs : s.size ≤ 100000) (ha : a ≤ s.size) (hc : (bt s a).toNat ≠ c) :
    Calls Tryd.prog 25 #[.pointer (some ⟨R, 0, none⟩), .int .u8 (c : Int)] w fun e w' => e = .returned (.bool false) ∧ Blk w' R (rdC s a v) 49 ∧ Frm (fun b => b = R) w w' := by
  have h0 : w.cell? ⟨R, 0, none⟩ = some (.string s) := hR.cell 0
  have h1 : w.cell? ⟨R, 1, none⟩ = some (.int .i64 (a : Int)) := hR.cell 1
  have HR := Lib.hid hR
  clear hR
  by_cases hlt : a < s.size
  · have t1 : ((a : Int) == (s.size : Int)) = false := by simp; omega
    have t2 := by_ne hlt hc
    clear hc
    go_enter Tryd.func25, Tryd.ntmps25
    go_wp2
    go_quiet (fail)
    go_wp2
    go_ret
    exact ⟨rfl, HR.out.drewN _, (Frm.refl _ _).drewN _⟩
  · obtain rfl : a = s.size := by omega
    clear hc
    go_enter Tryd.func25, Tryd.ntmps25
    go_wp2
    go_quiet (fail)
    go_wp2
    go_ret
    exact ⟨rfl, HR.out.drewN _, (Frm.refl _ _).drewN _⟩

set_option maxHeartbeats 2000000 in
theorem letter_yes (R N : Nat) (s : ByteArray) (a : Nat) (v : Value) (f t u : Value) (hR : Blk w R (rdC s a v) 49) (hN : Blk w N #[.int .i64 0, f, t, u] 27) (hne : N ≠ R) (hs : s.size ≤ 100000) (hc : letK (bt s a).toNat ≠ 0) :
    Calls Tryd.prog 29 #[.pointer (some ⟨R, 0, none⟩), .pointer (some ⟨N, 0, none⟩)] w fun e w' => e = .returned (.bool true) ∧ Blk w' R (rdC s (a + 1) v) 49 ∧ Blk w' N #[.int .i64 (letK (bt s a).toNat : Int), f, t, u] 27 ∧ Frm (fun b => b = R ∨ b = N) w w' := by
  have hlt : a < s.size := by
    rcases Nat.lt_or_ge a s.size with g | g
    · exact g
    · rw [bt_out g] at hc; exact absurd (by decide) hc
  have hk := letK_facts _ (bt_256 s a)
  have hix := hk.2.1
  obtain ⟨K, hK⟩ : ∃ K, letK (bt s a).toNat = K := ⟨_, rfl⟩
  rw [hK] at hc hix ⊢
  have hK18 : K ≤ 18 := by rw [← hK]; exact hk.1
  have HIX : ∀ W, Calls Tryd.prog 32 #[.string letB, .int .u8 (s[a].toNat : Int)] W fun e w' => e = .returned (.int .i64 ((K : Int) - 1)) ∧ w' = W := fun W =>
    (index_any letB _ W).mono fun e w' h => ⟨by
      rw [h.1]
      have e1 : ((s[a].toNat : Int).toNat.toUInt8) = (bt s a).toNat.toUInt8 := by rw [bt_eq hlt]; rfl
      rw [e1]
      exact congrArg _ (congrArg _ (by omega)), h.2⟩
  have HIX := Lib.hid HIX
  unfold letB at HIX
  have h0 : w.cell? ⟨R, 0, none⟩ = some (.string s) := hR.cell 0
  have h1 : w.cell? ⟨R, 1, none⟩ = some (.int .i64 (a : Int)) := hR.cell 1
  have t1 : ((a : Int) == (s.size : Int)) = false := by simp; omega
  have HR := Lib.hid hR
  have HN := Lib.hid hN
  clear hR hN hK hk hix
  go_enter Tryd.func29, Tryd.ntmps29
  go_wp2
  go_quiet (fail)
  obtain ⟨V, hV⟩ : ∃ V, V = w.drewN nq := ⟨_, rfl⟩
  have hRV : Blk V R (rdC s a v) 49 := by rw [hV]; exact HR.out.drewN _
  have hNV : Blk V N #[.int .i64 0, f, t, u] 27 := by rw [hV]; exact HN.out.drewN _
  have hFV : Frm (fun b => b = R ∨ b = N) w V := by rw [hV]; exact (Frm.refl _ _).drewN _
  have f0 : V.cell? ⟨R, 0, none⟩ = some (.string s) := hRV.cell 0
  have f1 : V.cell? ⟨R, 1, none⟩ = some (.int .i64 (a : Int)) := hRV.cell 1
  have g0 : V.cell? ⟨N, 0, none⟩ = some (.int .i64 0) := hNV.cell 0
  have y0 : V.frozen? ⟨N, 0, none⟩ = false := hNV.frozen 0
  rw [← hV]
  have HRV := Lib.hid hRV
  have HNV := Lib.hid hNV
  clear hV h0 h1 hRV hNV
  have r1 : IntKind.i64.wrap (K : Int) = (K : Int) := IntWalk.i64_in _ (by omega)
  go_upto_region 3 with fail
  go_cut [] from 15 to 27 (fun wx => Blk wx R (rdC s a v) 49 ∧ Blk wx N #[.int .i64 (K : Int), f, t, u] 27 ∧ Frm (fun b => b = R ∨ b = N) w wx)
  case first =>
    go_region_with (go_at_call 32; refine (HIX.out _).mono ?_; rintro e w3 ⟨rfl, rfl⟩)
    all_goals
      go_wp2_with fail
      go_meet
      case rel =>
        have hk := HNV.out.set 0 (.int .i64 (K : Int))
        exact ⟨(HRV.out.other 0 _ (Ne.symm hne)).drew, by simpa using hk.drew, (hFV.setCell 0 (.inl (.inr rfl)) _).drew⟩
  case rest =>
    obtain ⟨hR2, hN2, hF2⟩ := hcut
    have m1 : wc.cell? ⟨R, 1, none⟩ = some (.int .i64 (a : Int)) := hR2.cell 1
    have m2 : wc.frozen? ⟨R, 1, none⟩ = false := hR2.frozen 1
    have m3 : wc.cell? ⟨N, 0, none⟩ = some (.int .i64 (K : Int)) := hN2.cell 0
    have t3 : ((K : Int) == 0) = false := by simp; omega
    have HR2 := Lib.hid hR2
    have HN2 := Lib.hid hN2
    clear hR2 hN2 f0 f1 g0 y0
    go_wp2
    go_ret
    refine ⟨rfl, ?_, HN2.out.other _ _ hne, hF2.setCell 1 (.inl (.inl rfl)) _⟩
    have := HR2.out.set 1 (.int .i64 ((a : Int) + 1))
    simpa [rdC] using this
set_option maxHeartbeats 2000000 in
theorem letter_no (R N : Nat) (s : ByteArray) (a : Nat) (v : Value) (f t u : Value) (hR : Blk w R (rdC s a v) 49) (hN : Blk w N #[.int .i64 0, f, t, u] 27) (hne : N ≠ R) (hs : s.size ≤ 100000) (ha : a ≤ s.size) (hc : letK (bt s a).toNat = 0) :
    Calls Tryd.prog 29 #[.pointer (some ⟨R, 0, none⟩), .pointer (some ⟨N, 0, none⟩)] w fun e w' => e = .returned (.bool false) ∧ Blk w' R (rdC s a v) 49 ∧ Blk w' N #[.int .i64 0, f, t, u] 27 ∧ Frm (fun b => b = R ∨ b = N) w w' := by
  have h0 : w.cell? ⟨R, 0, none⟩ = some (.string s) := hR.cell 0
  have h1 : w.cell? ⟨R, 1, none⟩ = some (.int .i64 (a : Int)) := hR.cell 1
  have HR := Lib.hid hR
  have HN := Lib.hid hN
  clear hR hN
  by_cases hlt : a < s.size
  · have hk := letK_facts _ (bt_256 s a)
    have hix := hk.2.1
    rw [hc] at hix
    have HIX : ∀ W, Calls Tryd.prog 32 #[.string letB, .int .u8 (s[a].toNat : Int)] W fun e w' => e = .returned (.int .i64 (-1)) ∧ w' = W := fun W =>
      (index_any letB _ W).mono fun e w' h => ⟨by
        rw [h.1]
        have e1 : ((s[a].toNat : Int).toNat.toUInt8) = (bt s a).toNat.toUInt8 := by rw [bt_eq hlt]; rfl
        rw [e1]
        exact congrArg _ (congrArg _ (by omega)), h.2⟩
    have HIX := Lib.hid HIX
    unfold letB at HIX
    have t1 : ((a : Int) == (s.size : Int)) = false := by simp; omega
    clear hc hk hix
    go_enter Tryd.func29, Tryd.ntmps29
    go_wp2
    go_quiet (fail)
    obtain ⟨V, hV⟩ : ∃ V, V = w.drewN nq := ⟨_, rfl⟩
    have hRV : Blk V R (rdC s a v) 49 := by rw [hV]; exact HR.out.drewN _
    have hNV : Blk V N #[.int .i64 0, f, t, u] 27 := by rw [hV]; exact HN.out.drewN _
    have hFV : Frm (fun b => b = R ∨ b = N) w V := by rw [hV]; exact (Frm.refl _ _).drewN _
    have f0 : V.cell? ⟨R, 0, none⟩ = some (.string s) := hRV.cell 0
    have f1 : V.cell? ⟨R, 1, none⟩ = some (.int .i64 (a : Int)) := hRV.cell 1
    have g0 : V.cell? ⟨N, 0, none⟩ = some (.int .i64 0) := hNV.cell 0
    have y0 : V.frozen? ⟨N, 0, none⟩ = false := hNV.frozen 0
    rw [← hV]
    have HRV := Lib.hid hRV
    have HNV := Lib.hid hNV
    clear hV h0 h1 hRV hNV
    have r1 : IntKind.i64.wrap 0 = 0 := by decide
    go_upto_region 3 with fail
    go_cut [] from 15 to 27 (fun wx => Blk wx R (rdC s a v) 49 ∧ Blk wx N #[.int .i64 0, f, t, u] 27 ∧ Frm (fun b => b = R ∨ b = N) w wx)
    case first =>
      go_region_with (go_at_call 32; refine (HIX.out _).mono ?_; rintro e w3 ⟨rfl, rfl⟩)
      all_goals
        go_wp2_with fail
        go_meet
        case rel =>
          have hk := HNV.out.set 0 (.int .i64 0)
          exact ⟨(HRV.out.other 0 _ (Ne.symm hne)).drew, by simpa using hk.drew, (hFV.setCell 0 (.inl (.inr rfl)) _).drew⟩
    case rest =>
      obtain ⟨hR2, hN2, hF2⟩ := hcut
      have m3 : wc.cell? ⟨N, 0, none⟩ = some (.int .i64 0) := hN2.cell 0
      have HR2 := Lib.hid hR2
      have HN2 := Lib.hid hN2
      clear hR2 hN2 f0 f1 g0 y0
      go_wp2
      go_ret
      exact ⟨rfl, HR2.out, HN2.out, hF2⟩
  · obtain rfl : a = s.size := by omega
    clear hc
    go_enter Tryd.func29, Tryd.ntmps29
    go_wp2
    go_quiet (fail)
    go_wp2
    go_ret
    exact ⟨rfl, HR.out.drewN _, HN.out.drewN _, (Frm.refl _ _).drewN _⟩
end
end Go.Proofs.YtdiolfniaiojfaaDoor

/- What Inside of layer 7 (parts) returns, and what layer 7's statement PartsInside does. Condition: a part of a text; none of the statement but that a text's length fits an int. -/
import Derived.Test.YthelcmjgikfbjaaPtLa
import Derived.Deep.CutRange
import Derived.Deep.DeepCutAuto
namespace Go.Proofs.Ythelcmjgikfbjaa
open Go.RowKit
set_option linter.unusedVariables false

/-- How many bytes of a part stand ahead of its inside, and behind it. -/
def headM (m : Nat) : Nat := if m = 1 ∨ m = 7 ∨ m = 8 then 2 else if m = 9 then 3 else 1
def tailM (m : Nat) : Nat := if m = 1 ∨ m = 7 ∨ m = 8 then 1 else if m = 9 then 2 else if m = 13 ∨ m = 12 then 0 else 1
theorem headM_le (m : Nat) : headM m ≤ 3 := by unfold headM; (repeat' split) <;> omega
theorem tailM_le (m : Nat) : tailM m ≤ 2 := by unfold tailM; (repeat' split) <;> omega
/-- Where a part's inside ends. -/
def insT (p : Prt) : Nat := if p.to ≤ p.frm + headM p.mode then p.frm + headM p.mode else if p.op = true then p.to else if p.frm + headM p.mode ≤ p.to - tailM p.mode then p.to - tailM p.mode else p.frm + headM p.mode

theorem prt_to_pos {s : ByteArray} {f : Nat} (hf : f < s.size) (hb : born s f = true) : 1 ≤ (prt s f).to := by
  have he := eK_born hb hf
  rw [prt_eq hb hf]
  split
  · show 1 ≤ f + 1 + _; omega
  · show 1 ≤ (if eK s f s.size = s.size then s.size else eK s f s.size + 1)
    split <;> omega
/-- The same, as the statement works it out. -/
theorem insT_law (m f t : Nat) (up : Int) (op : Bool) (ht : 1 ≤ t) (Y F : Int) (hF : F = (f : Int) + (headM m : Nat)) (hY : Y = if m = 12 ∨ m = 13 ∨ op = true then (t : Int) else if m = 9 then (t : Int) - 2 else (t : Int) - 1) : ((insT ⟨m, f, t, up, op⟩ : Nat) : Int) = if Y < F then F else Y := by
  subst hF hY
  unfold insT tailM
  simp only
  have h3 := headM_le m
  by_cases e12 : m = 12
  · subst e12
    have : headM 12 = 1 := rfl
    rw [this]
    cases op <;> simp <;> (repeat' split) <;> omega
  by_cases e13 : m = 13
  · subst e13
    have : headM 13 = 1 := rfl
    rw [this]
    cases op <;> simp <;> (repeat' split) <;> omega
  by_cases e9 : m = 9
  · subst e9
    have : headM 9 = 3 := rfl
    rw [this]
    cases op <;> simp <;> (repeat' split) <;> omega
  generalize headM m = hd at *
  cases op <;> simp [e12, e13, e9] <;> (repeat' split) <;> omega

section
variable (w : World)
set_option maxHeartbeats 2000000 in
theorem edges_any (m hd tl : Nat) (hh : Hid (hd = headM m)) (ht : Hid (tl = tailM m)) : Calls Try.prog 38 #[.int .i64 (m : Int)] w fun e w' => e = .returned (.tuple #[.int .i64 (hd : Int), .int .i64 (tl : Int)]) ∧ w' = w := by
  have h1 := hh.out
  have h2 := ht.out
  unfold headM at h1
  unfold tailM at h2
  by_cases e1 : m = 1
  · subst e1
    simp at h1 h2
    subst h1 h2
    go_enter Try.func38, Try.ntmps38
    go_wp2
    go_ret2
    exact ⟨rfl, rfl⟩
  by_cases e7 : m = 7
  · subst e7
    simp at h1 h2
    subst h1 h2
    go_enter Try.func38, Try.ntmps38
    go_wp2
    go_ret2
    exact ⟨rfl, rfl⟩
  by_cases e8 : m = 8
  · subst e8
    simp at h1 h2
    subst h1 h2
    go_enter Try.func38, Try.ntmps38
    go_wp2
    go_ret2
    exact ⟨rfl, rfl⟩
  by_cases e9 : m = 9
  · subst e9
    simp at h1 h2
    subst h1 h2
    go_enter Try.func38, Try.ntmps38
    go_wp2
    go_ret2
    exact ⟨rfl, rfl⟩
  by_cases e13 : m = 13
  · subst e13
    simp at h1 h2
    subst h1 h2
    go_enter Try.func38, Try.ntmps38
    go_wp2
    go_ret2
    exact ⟨rfl, rfl⟩
  by_cases e12 : m = 12
  · subst e12
    simp at h1 h2
    subst h1 h2
    go_enter Try.func38, Try.ntmps38
    go_wp2
    go_ret2
    exact ⟨rfl, rfl⟩
  rw [if_neg (by omega), if_neg e9] at h1
  rw [if_neg (by omega), if_neg e9, if_neg (by omega)] at h2
  subst h1 h2
  have t1 : ((m : Int) == 1) = false := beq_eq_false_iff_ne.2 (by omega)
  have t7 : ((m : Int) == 7) = false := beq_eq_false_iff_ne.2 (by omega)
  have t8 : ((m : Int) == 8) = false := beq_eq_false_iff_ne.2 (by omega)
  have t9 : ((m : Int) == 9) = false := beq_eq_false_iff_ne.2 (by omega)
  have t13 : ((m : Int) == 13) = false := beq_eq_false_iff_ne.2 (by omega)
  have t12 : ((m : Int) == 12) = false := beq_eq_false_iff_ne.2 (by omega)
  go_enter Try.func38, Try.ntmps38
  go_wp2
  go_ret2
  exact ⟨rfl, rfl⟩
set_option maxHeartbeats 4000000 in
theorem inside_any (m f t : Nat) (up : Int) (op : Bool) (hf : f ≤ 1000000) (ht : t ≤ 1000000) :
    Calls Try.prog 19 #[.agg #[.int .i64 (m : Int), .int .i64 (f : Int), .int .i64 (t : Int), .int .i64 up, .bool op]] w fun e w' => e = .returned (.tuple #[.int .i64 ((f + headM m : Nat) : Int), .int .i64 ((insT ⟨m, f, t, up, op⟩ : Nat) : Int)]) ∧ Below w.heap.size w w' := by
  have h3 := headM_le m
  have h2 := tailM_le m
  obtain ⟨T, hT⟩ : ∃ T, insT ⟨m, f, t, up, op⟩ = T := ⟨_, rfl⟩
  rw [hT]
  unfold insT at hT
  simp only at hT
  have hed := fun W => edges_any W m (headM m) (tailM m) (Lib.hid rfl) (Lib.hid rfl)
  generalize headM m = hd at *
  generalize tailM m = tl at *
  obtain ⟨F, hF⟩ : ∃ F, f + hd = F := ⟨_, rfl⟩
  rw [hF] at hT ⊢
  have e1 : IntKind.i64.wrap ((f : Int) + (hd : Int)) = (F : Int) := by rw [IntWalk.i64_in _ (by omega)]; omega
  have e2 : IntKind.i64.wrap ((t : Int) - (tl : Int)) = (t : Int) - (tl : Int) := by rw [IntWalk.i64_in _ (by omega)]
  have HED := Lib.hid hed
  have HT := Lib.hid hT
  have HFF := Lib.hid hF
  have hbel : ∀ W : World, Below w.heap.size w W → ∀ q, Below w.heap.size w (W.drewN q) := fun W h q => below_drewN h q
  clear hed hT hF h3
  by_cases hle : t ≤ F
  · have t1 : (t : Int) ≤ (F : Int) := by omega
    have t1b : decide (t ≤ F) = true := by simpa using hle
    have e : T = F := by rw [← HT.out, if_pos hle]
    subst e
    go_enter Try.func19, Try.ntmps19
    go_wp2_with fail
    refine (HED.out _).mono ?_
    rintro e w1 ⟨rfl, rfl⟩
    go_wp2
    go_ret2
    exact ⟨rfl, (Below.refl _ _).alloc (Nat.le_refl _) _⟩
  · have t1 : ¬ (t : Int) ≤ (F : Int) := by omega
    have t1b : decide (t ≤ F) = false := by simpa using hle
    cases op with
    | true =>
      have e : t = T := by rw [← HT.out, if_neg hle, if_pos rfl]
      subst e
      go_enter Try.func19, Try.ntmps19
      go_wp2_with fail
      refine (HED.out _).mono ?_
      rintro e w1 ⟨rfl, rfl⟩
      go_wp2
      go_quiet (fail)
      go_wp2
      go_ret2
      exact ⟨rfl, below_drewN ((Below.refl _ _).alloc (Nat.le_refl _) _) _⟩
    | false =>
      have e : T = if F ≤ t - tl then t - tl else F := by rw [← HT.out, if_neg hle, if_neg (by simp)]
      have HE := Lib.hid e
      clear e HT
      go_enter Try.func19, Try.ntmps19
      go_wp2_with fail
      refine (HED.out _).mono ?_
      rintro e w1 ⟨rfl, rfl⟩
      go_wp2
      go_quiet (fail)
      go_wp2
      all_goals
        go_ret2
        refine ⟨?_, below_drewN ((Below.refl _ _).alloc (Nat.le_refl _) _) _⟩
        first
          | (have e3 : (T : Int) = (t : Int) - (tl : Int) := (by have := HE.out; split at this <;> omega)
             rw [e3]
             rfl)
          | (have e3 : (T : Int) = (F : Int) := (by have := HE.out; split at this <;> omega)
             rw [e3]
             rfl)

def InRl (n : Nat) (w : World) (v : Value) (wr : World) : Prop := ∃ i : Nat, i ≤ n ∧ v = .int .i64 (i : Int) ∧ Below w.heap.size w wr
set_option maxRecDepth 100000 in
set_option maxHeartbeats 8000000 in
theorem partsInside_law (s : ByteArray) (hmax : s.size ≤ 9223372036854775807) :
    Calls Try.prog 7 #[.string s] w fun e w' => e = .returned (.bool true) ∧ Below w.heap.size w w' := by
  by_cases hs : s.size ≤ 100
  · have hz : ¬ (100 : Int) < (s.size : Int) := by omega
    go_enter Try.func7, Try.ntmps7
    go_wp2_with fail
    refine (awake_any _).mono ?_
    rintro e w0 ⟨rfl, hB0⟩
    go_wp2_with fail
    refine (of_ref_any _ s (by omega)).mono ?_
    rintro e w1 ⟨⟨v, rfl, hP⟩, hB1⟩
    obtain ⟨oa, n, oc, rfl, hR⟩ := hP.read
    have hnl : n ≤ 100 := by have h1 := hR.len; have h2 := PL_len s; omega
    have HR := Lib.hid hR
    have hB : Below w.heap.size w w1 := hB0.trans (hB1.mono hB0.size)
    clear hR hP hB0 hB1
    go_wp2
    go_loopw [4] (fun v wr => InRl n w1 v wr) (fun v _ => n - (intOf v).toNat)
    case atStart => exact ⟨0, Nat.zero_le _, rfl, Below.refl _ _⟩
    case round =>
      obtain ⟨i, hi, rfl, hBr⟩ := hrel
      have hsz := hBr.size
      by_cases hlt : (i : Int) < (n : Int)
      · have hlt' : i < n := by omega
        have q0 : (0 : Int) ≤ (i : Int) := by omega
        obtain ⟨ob, p, rfl, hp, _, a0, a1, a2, a3, a4⟩ := (HR.out.below hBr).at hlt'
        obtain ⟨f0, _, hpe, hf0, hfb, hpf, hpt, hpm⟩ := PL_get hp
        have ht1 : 1 ≤ p.to := by rw [hpe]; exact prt_to_pos hf0 hfb
        obtain ⟨m, f, t, up, op⟩ := p
        simp only at a0 a1 a2 a3 a4 hpf hpt hpm ht1
        obtain ⟨A, hA⟩ : ∃ A, A = decide (m = 1 ∨ m = 7 ∨ m = 8) := ⟨_, rfl⟩
        obtain ⟨B, hBB⟩ : ∃ B, B = decide (m = 9) := ⟨_, rfl⟩
        obtain ⟨C, hC⟩ : ∃ C, C = decide (m = 12 ∨ m = 13 ∨ op = true) := ⟨_, rfl⟩
        obtain ⟨F1, hF1⟩ : ∃ F1 : Int, F1 = (f : Int) + 1 := ⟨_, rfl⟩
        obtain ⟨F2, hF2⟩ : ∃ F2 : Int, F2 = if A = true then F1 + 1 else F1 := ⟨_, rfl⟩
        obtain ⟨F3, hF3⟩ : ∃ F3 : Int, F3 = if B = true then F2 + 2 else F2 := ⟨_, rfl⟩
        obtain ⟨T1, hT1⟩ : ∃ T1 : Int, T1 = (t : Int) - 1 := ⟨_, rfl⟩
        obtain ⟨T2, hT2⟩ : ∃ T2 : Int, T2 = if B = true then T1 - 1 else T1 := ⟨_, rfl⟩
        obtain ⟨T3, hT3⟩ : ∃ T3 : Int, T3 = if C = true then (t : Int) else T2 := ⟨_, rfl⟩
        obtain ⟨T4, hT4⟩ : ∃ T4 : Int, T4 = if T3 < F3 then F3 else T3 := ⟨_, rfl⟩
        have hFe : F3 = (f : Int) + (headM m : Nat) := by
          rw [hF3, hF2, hF1, hA, hBB]
          unfold headM
          simp only [decide_eq_true_eq]
          (repeat' split) <;> omega
        have hTe : T3 = if m = 12 ∨ m = 13 ∨ op = true then (t : Int) else if m = 9 then (t : Int) - 2 else (t : Int) - 1 := by
          rw [hT3, hT2, hT1, hC, hBB]
          simp only [decide_eq_true_eq]
          (repeat' split) <;> omega
        have hTI := insT_law m f t up op ht1 T3 F3 hFe hTe
        rw [← hT4] at hTI
        have hin := fun W => inside_any W m f t up op (by omega) (by omega)
        rw [hTI, show ((f + headM m : Nat) : Int) = F3 by rw [hFe]; simp] at hin
        have b1 : F1 ≤ 101 ∧ 0 ≤ F1 := by omega
        have b2 : F2 ≤ 102 ∧ 0 ≤ F2 := by rw [hF2]; split <;> omega
        have b3 : T1 ≤ 101 ∧ 0 ≤ T1 := by omega
        have e1 : IntKind.i64.wrap ((f : Int) + 1) = F1 := by rw [IntWalk.i64_in _ (by omega)]; omega
        have e4 : IntKind.i64.wrap ((t : Int) - 1) = T1 := by rw [IntWalk.i64_in _ (by omega)]; omega
        have E2 := Lib.hid (fun (h : A = true) => show IntKind.i64.wrap (F1 + 1) = F2 by rw [IntWalk.i64_in _ (by omega), hF2, if_pos h])
        have E3 := Lib.hid (fun (h : B = true) => show IntKind.i64.wrap (F2 + 2) = F3 by rw [IntWalk.i64_in _ (by omega), hF3, if_pos h])
        have E5 := Lib.hid (fun (h : B = true) => show IntKind.i64.wrap (T1 - 1) = T2 by rw [IntWalk.i64_in _ (by omega), hT2, if_pos h])
        have N2 := Lib.hid (fun (h : A = false) => show F1 = F2 by rw [hF2, h]; rfl)
        have N3 := Lib.hid (fun (h : B = false) => show F2 = F3 by rw [hF3, h]; rfl)
        have N5 := Lib.hid (fun (h : B = false) => show T1 = T2 by rw [hT2, h]; rfl)
        have P3 := Lib.hid (fun (h : C = true) => show (t : Int) = T3 by rw [hT3, h]; rfl)
        have P4 := Lib.hid (fun (h : C = false) => show T2 = T3 by rw [hT3, h]; rfl)
        have HIN := Lib.hid hin
        have HA := Lib.hid hA
        have HBB := Lib.hid hBB
        have HC := Lib.hid hC
        have HT4 := Lib.hid hT4
        have HBR := Lib.hid hBr
        clear hp hin hTI hFe hTe hA hBB hC hF1 hF2 hF3 hT1 hT2 hT3 hT4 hpf hpt hBr b1 b2 b3
        go_upto_region 11 with fail
        go_cut [55] from 34 to 55 (fun v55 wx => v55 = .bool A ∧ wx = wr)
        case first =>
          go_wp2
          all_goals
            go_meet
            case rel =>
              refine ⟨congrArg Value.bool ?_, rfl⟩
              rw [HA.out, Bool.eq_iff_iff]
              try simp
              try omega
        case rest =>
          obtain ⟨rfl, rfl⟩ := hcut
          go_upto_if 55 with fail
          go_cut [5] from 56 to 57 (fun v5 wx => v5 = .int .i64 F2 ∧ wx = wc)
          case first =>
            cases A
            · have n2 := N2.out rfl
              subst n2
              go_wp2
              go_meet
              case rel => exact ⟨rfl, rfl⟩
            · have n2 := E2.out rfl
              go_wp2
              go_meet
              case rel => exact ⟨rfl, rfl⟩
          case rest =>
            obtain ⟨rfl, rfl⟩ := hcut
            go_upto_region 13 with fail
            go_cut [63] from 58 to 63 (fun v63 wx => v63 = .bool B ∧ wx = wc)
            case first =>
              go_wp2
              all_goals
                go_meet
                case rel =>
                  refine ⟨congrArg Value.bool ?_, rfl⟩
                  rw [HBB.out, Bool.eq_iff_iff]
                  try simp
                  try omega
            case rest =>
              obtain ⟨rfl, rfl⟩ := hcut
              go_upto_if 63 with fail
              go_cut [5, 6] from 64 to 67 (fun v5 v6 wx => v5 = .int .i64 F3 ∧ v6 = .int .i64 T2 ∧ wx = wc)
              case first =>
                cases B
                · have n2 := N3.out rfl
                  have n3 := N5.out rfl
                  subst n2 n3
                  go_wp2
                  go_meet
                  case rel => exact ⟨rfl, rfl, rfl⟩
                · have n2 := E3.out rfl
                  have n3 := E5.out rfl
                  go_wp2
                  go_meet
                  case rel => exact ⟨rfl, rfl, rfl⟩
              case rest =>
                obtain ⟨rfl, rfl, rfl⟩ := hcut
                go_upto_region 16 with fail
                go_cut [88] from 68 to 88 (fun v88 wx => v88 = .bool C ∧ wx = wc)
                case first =>
                  cases op
                  all_goals
                    go_wp2
                    all_goals
                      go_meet
                      case rel =>
                        refine ⟨congrArg Value.bool ?_, rfl⟩
                        rw [HC.out, Bool.eq_iff_iff]
                        try simp
                        try omega
                case rest =>
                  obtain ⟨rfl, rfl⟩ := hcut
                  go_upto_if 88 with fail
                  go_cut [6] from 89 to 93 (fun v6 wx => v6 = .int .i64 T3 ∧ wx = wc)
                  case first =>
                    cases C
                    · have n2 := P4.out rfl
                      subst n2
                      go_wp2
                      go_meet
                      case rel => exact ⟨rfl, rfl⟩
                    · have n2 := P3.out rfl
                      subst n2
                      go_wp2
                      go_meet
                      case rel => exact ⟨rfl, rfl⟩
                  case rest =>
                    obtain ⟨rfl, rfl⟩ := hcut
                    by_cases hTF : T3 < F3
                    · have e6 : T4 = F3 := by rw [HT4.out, if_pos hTF]
                      subst e6
                      go_wp2_with fail
                      refine (HIN.out _).mono ?_
                      rintro e w3 ⟨rfl, hb3⟩
                      go_wp2
                      go_roundw
                      case rel => exact ⟨i + 1, by omega, by go_num, HBR.out.trans (hb3.mono hsz)⟩
                      case measure => simp [intOf]; omega
                    · have e6 : T4 = T3 := by rw [HT4.out, if_neg hTF]
                      subst e6
                      go_wp2_with fail
                      refine (HIN.out _).mono ?_
                      rintro e w3 ⟨rfl, hb3⟩
                      go_wp2
                      go_roundw
                      case rel => exact ⟨i + 1, by omega, by go_num, HBR.out.trans (hb3.mono hsz)⟩
                      case measure => simp [intOf]; omega
      · obtain rfl : n = i := by omega
        go_wp2
        go_ret
        exact ⟨rfl, hB.trans (hBr.mono hB.size)⟩
  · have hz : (100 : Int) < (s.size : Int) := by omega
    go_enter Try.func7, Try.ntmps7
    go_wp2_with fail
    refine (awake_any _).mono ?_
    rintro e w0 ⟨rfl, hB0⟩
    go_wp2
    go_ret
    exact ⟨rfl, hB0⟩
end
end Go.Proofs.Ythelcmjgikfbjaa

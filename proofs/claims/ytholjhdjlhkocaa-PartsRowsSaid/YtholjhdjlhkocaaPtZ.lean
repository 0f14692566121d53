/- What parts.rows$1 yields: the rows of bytes of one part, in their order. Condition: texts of at most 60,000 bytes. -/
import Derived.Sort.CutIn
import Derived.Test.YtholjhdjlhkocaaPtY
namespace Go.Proofs.Ytholjhdjlhkocaa
open Go.RowKit Go.Shelf
set_option linter.unusedVariables false
attribute [local go_sem] Oper.semAt_some

/-- A row, with what ends it given by letters. -/
theorem RJ.row2 {s : ByteArray} {part P : Int} {b f t m : Nat} (h : RJ s part b f) (hf : f < s.size) (hP : byP s f = P) (hm1 : P < 0 → m = s.size) (hm2 : ∀ j : Nat, P = (j : Nat) → ∃ q, (PL s)[j]? = some q ∧ q.to = m)
    (ht1 : ∀ q, (PL s)[b]? = some q → (t : Int) = min (m : Int) (q.frm : Nat)) (ht2 : (PL s)[b]? = none → t = m) :
    f < t ∧ t ≤ s.size ∧ (∀ a, f ≤ a → a < t → byP s a = byP s f) ∧ (t < s.size → byP s t ≠ byP s f) ∧ RI s (byP s f) b t := by
  subst hP
  refine h.row hf ?_
  by_cases hp : byP s f < 0
  · rw [if_pos hp]
    have := hm1 hp
    cases hq : (PL s)[b]? with
    | none => show (t : Int) = (s.size : Int); have := ht2 hq; omega
    | some q => show (t : Int) = min (s.size : Int) (q.frm : Nat); have := ht1 q hq; omega
  · rw [if_neg hp]
    obtain ⟨q', hq', e⟩ := hm2 (byP s f).toNat (by omega)
    rw [hq']
    cases hq : (PL s)[b]? with
    | none => show (t : Int) = (q'.to : Nat); have := ht2 hq; omega
    | some q => show (t : Int) = min ((q'.to : Nat) : Int) (q.frm : Nat); have := ht1 q hq; omega

def RwRl (s : ByteArray) (Bn : Nat) (W : World) (J : List PRn → World → Prop) (v4 v5 v6 : Value) (wr : World) : Prop :=
  ∃ (f b : Nat) (p : Int) (pre : List PRn), v4 = .int .i64 (f : Int) ∧ v5 = .int .i64 p ∧ v6 = .int .i64 (b : Int) ∧ PTil s pre f ∧ RI s p b f ∧ J pre wr ∧ KpP Bn W wr
set_option maxRecDepth 100000 in
set_option maxHeartbeats 4000000 in
theorem rows1_in (n : Nat) (hn : 1 ≤ n) (l Bn : Nat) (s : ByteArray) (hs : s.size ≤ 60000) (J Jx : List PRn → World → Prop)
    (hJ : ∀ pre W W', J pre W → W.grownBy W' none → J pre W')
    (hY : ∀ pre (x : PRn) W, J pre W → pre.length < s.size → YieldAt Fence.wide (n - 1) Try.prog l #[.agg #[.int .i64 x.c, .int .i64 (x.f : Int), .int .i64 (x.t : Int)]] W fun e W' =>
      (e = .returned (.bool true) ∧ J (pre ++ [x]) W' ∧ KpP Bn W W') ∨ (e = .returned (.bool false) ∧ Jx (pre ++ [x]) W'))
    (W : World) (hBs : Blk W Bn #[.string s] 9) (h0 : J [] W) :
    CallsIn Fence.wide n Try.prog 58 #[.func (.yield l) #[] #[], .pointer (some ⟨Bn, 0, none⟩)] W fun e W' => (∃ v, e = .returned v) ∧
      ((∃ ys, PTil s ys s.size ∧ J ys W') ∨ (∃ pre, True ∧ Jx pre W')) := by
  have HOF := Lib.hid (fun (w : World) => (callsIn_wide (n := n - 1)).2 (of_parts_any w s (by omega)))
  have HHO := Lib.hid (fun (w : World) oa n' oc a v0 R h1 h2 h3 h4 h5 h6 => (callsIn_wide (n := n - 1)).2 (holding_any w oa n' oc s a v0 R h1 h2 h3 h4 h5 h6))
  have HBS := Lib.hid hBs
  have hbc := hBs.cell 0
  have HJ := Lib.hid hJ
  have HY := Lib.hid hY
  have hro : Fence.wide.round = none := rfl
  have hfn : Fence.wide.fn 58 := trivial
  have hf1 : Fence.wide.fn 28 := trivial
  have hf2 : Fence.wide.fn 59 := trivial
  clear hBs hJ hY
  refine callsIn_of_wp Try.func58 rfl hfn ?_ hro
  simp only [Try.ntmps58, List.size_toArray, List.length_cons, List.length_nil, Nat.reduceAdd, Nat.reduceSub, Array.replicate_succ, Array.replicate_zero, List.push_toArray, List.append_toArray, List.nil_append, List.cons_append]
  gi_wp2_with fail
  refine (HOF.out _).mono ?_
  rintro e w1 ⟨⟨v, rfl, hP⟩, hB1⟩
  obtain ⟨oa, N, oc, rfl, hPK⟩ := hP.kept
  have hNl : N ≤ 60000 := by have h1 := hPK.1.len; have h2 := PL_len s; omega
  have hj1 := HJ.out [] W w1 h0 (grown_below hB1)
  have hk1 : KpP Bn W w1 := kpP_below HBS.out.lt hB1
  have HPK := Lib.hid hPK
  have HNL := Lib.hid hPK.1.len
  clear hbc hP hPK
  gi_wp2
  gi_loopw [4, 5, 6] (fun v4 v5 v6 wr => RwRl s Bn w1 J v4 v5 v6 wr) (fun v _ _ _ => s.size - (intOf v).toNat)
  case atStart => exact ⟨0, 0, -1, [], rfl, rfl, rfl, PTil.nil, RI.start s, hj1, rfl, fun _ _ _ _ => rfl⟩
  case round =>
    obtain ⟨f, b, p, pre, rfl, rfl, rfl, hT, hI, hJs, hKp⟩ := hrel
    have hk2 := kpP_t hk1 hKp
    have hblk : Blk wr Bn #[.string s] 9 := Eq.trans hk2.1 HBS.out
    have hcs := hblk.cell 0
    have hpk := HPK.out.kept hKp
    have hfl := hT.le
    by_cases hlt : f < s.size
    · have hlt2 : (f : Int) < s.size := by omega
      have q0 : (0 : Int) ≤ (f : Int) := by omega
      have hbn : b ≤ N := by have := hI.le; have := HNL.out; omega
      obtain ⟨B, hB, hB'⟩ : ∃ B : Bool, (B = true → ∃ q, (PL s)[b]? = some q ∧ q.frm = f) ∧ (B = false → ∀ q, (PL s)[b]? = some q → ¬ q.frm = f) := by
        by_cases h : ∃ q, (PL s)[b]? = some q ∧ q.frm = f
        · exact ⟨true, fun _ => h, (fun h => by cases h)⟩
        · exact ⟨false, (fun h => by cases h), fun _ q h1 h2 => h ⟨q, h1, h2⟩⟩
      have HRJ := Lib.hid (show (B = true → RJ s (b : Nat) (b + 1) f) ∧ (B = false → RJ s p b f) from ⟨fun h => by obtain ⟨q, h1, h2⟩ := hB h; exact hI.begins h1 h2, fun h => hI.goes (hB' h)⟩)
      have HT := Lib.hid hT
      have HJS := Lib.hid hJs
      have HKP := Lib.hid hKp
      have HK2 := Lib.hid hk2
      have HBLK := Lib.hid hblk
      have HPK2 := Lib.hid hpk
      have hp1 := hI.lo
      have hp2 := hI.hi
      clear hT hI hJs hKp hk2 hblk hpk hk1 hj1
      gi_upto_region 3 with fail
      gi_cut [26] from 14 (fun v26 wx => v26 = .bool B ∧ wx = wr)
      case first =>
        by_cases hbl : b < N
        · have hbl2 : (b : Int) < (N : Int) := by omega
          have q1 : (0 : Int) ≤ (b : Int) := by omega
          have hiL : b < (PL s).length := by have := HNL.out; omega
          obtain ⟨q, hq⟩ : ∃ q, (PL s)[b]? = some q := ⟨_, List.getElem?_eq_getElem hiL⟩
          obtain ⟨ob, rfl, _, _, a1, _, _, _⟩ := HPK2.out.1.get hq
          obtain ⟨qf, hqf⟩ : ∃ qf, q.frm = qf := ⟨_, rfl⟩
          rw [hqf] at a1
          by_cases e : qf = f
          · have e1 : ((qf : Int) == (f : Int)) = true := by simp; omega
            have hBt : B = true := by
              cases B with
              | true => rfl
              | false => exact absurd (hqf.trans e) (hB' rfl q hq)
            subst hBt
            clear hB hB' hqf hq
            gi_wp2
            gi_meet
            exact ⟨rfl, rfl⟩
          · have e1 : ((qf : Int) == (f : Int)) = false := beq_eq_false_iff_ne.2 (by omega)
            have hBf : B = false := by
              cases B with
              | false => rfl
              | true =>
                obtain ⟨q2, h1, h2⟩ := hB rfl
                rw [hq] at h1
                cases h1
                exact absurd (hqf.symm.trans h2) e
            subst hBf
            clear hB hB' hqf hq
            gi_wp2
            gi_meet
            exact ⟨rfl, rfl⟩
        · have hbl2 : ¬ (b : Int) < (N : Int) := by omega
          have hBf : B = false := by
            cases B with
            | false => rfl
            | true =>
              obtain ⟨q2, h1, h2⟩ := hB rfl
              have := (List.getElem?_eq_some_iff.1 h1).1
              have := HNL.out
              omega
          subst hBf
          clear hB hB'
          gi_wp2
          gi_meet
          exact ⟨rfl, rfl⟩
      case rest =>
        obtain ⟨rfl, rfl⟩ := hcut
        obtain ⟨p2, b2, e2, HRJ2, hb2⟩ : ∃ (p2 : Int) (b2 : Nat), (if B = true then p2 = (b : Int) ∧ b2 = b + 1 else p2 = p ∧ b2 = b) ∧ RJ s p2 b2 f ∧ b2 ≤ N := by
          cases hBB : B with
          | true =>
            have h := HRJ.out.1 hBB
            exact ⟨(b : Int), b + 1, by simp, h, by have := h.le; have := HNL.out; omega⟩
          | false => exact ⟨p, b, by simp, HRJ.out.2 hBB, hbn⟩
        have HRJ3 := Lib.hid HRJ2
        gi_upto_if 26 with fail
        gi_cut [5, 6] from 27 (fun v5 v6 wx => v5 = .int .i64 p2 ∧ v6 = .int .i64 (b2 : Int) ∧ wx = wc)
        case first =>
          clear hB hB' HRJ
          cases B with
          | true =>
            simp at e2
            obtain ⟨rfl, rfl⟩ := e2
            gi_wp2
            gi_meet
            exact ⟨rfl, by go_num, rfl⟩
          | false =>
            simp at e2
            obtain ⟨rfl, rfl⟩ := e2
            gi_wp2
            gi_meet
            exact ⟨rfl, rfl, rfl⟩
        case rest =>
          obtain ⟨rfl, rfl, rfl⟩ := hcut
          obtain ⟨P, hP⟩ : ∃ P, byP s f = P := ⟨_, rfl⟩
          have hb3 : byI s f (p2 + 1).toNat = P := HRJ3.out.byte.symm.trans hP
          have hPlo : -1 ≤ P ∧ P < (b2 : Nat) := by
            have h0 := byP_begun HRJ3.out.le HRJ3.out.new
            have := byI_lo (s := s) (a := f) b2
            rw [← h0, hP] at this
            exact this
          have hPL : ∀ j : Nat, P = (j : Nat) → ∃ q, (PL s)[j]? = some q := by
            intro j e
            have h0 := byP_begun HRJ3.out.le HRJ3.out.new
            rw [hP, e] at h0
            obtain ⟨q, hq, _⟩ := byI_holds h0.symm
            exact ⟨q, hq⟩
          obtain ⟨m, hm1, hm2⟩ : ∃ m : Nat, (P < 0 → m = s.size) ∧ ∀ j : Nat, P = (j : Nat) → ∃ q, (PL s)[j]? = some q ∧ q.to = m := by
            by_cases h : P < 0
            · exact ⟨s.size, fun _ => rfl, fun j e => by omega⟩
            · obtain ⟨j, hj⟩ : ∃ j : Nat, P = (j : Nat) := ⟨P.toNat, by omega⟩
              obtain ⟨q, hq⟩ := hPL j hj
              refine ⟨q.to, fun h2 => absurd h2 h, fun i e => ?_⟩
              obtain rfl : i = j := by omega
              exact ⟨q, hq, rfl⟩
          obtain ⟨t, ht1, ht2⟩ : ∃ t : Nat, (b2 < N → ∃ q, (PL s)[b2]? = some q ∧ (t : Int) = min (m : Int) (q.frm : Nat)) ∧ (¬ b2 < N → t = m) := by
            by_cases h : b2 < N
            · have hbl : b2 < (PL s).length := by have := HNL.out; omega
              have hq := List.getElem?_eq_getElem hbl
              refine ⟨min m ((PL s)[b2]).frm, fun _ => ⟨_, hq, by omega⟩, fun h2 => absurd h h2⟩
            · exact ⟨m, fun h2 => absurd h2 h, fun _ => rfl⟩
          have hrow := HRJ3.out.row2 (t := t) hlt hP hm1 hm2 (fun q hq => by
            have hbl := (List.getElem?_eq_some_iff.1 hq).1
            obtain ⟨q2, hq2, e⟩ := ht1 (by have := HNL.out; omega)
            rw [hq] at hq2
            cases hq2
            exact e) (fun hq => ht2 (by have := List.getElem?_eq_none_iff.1 hq; have := HNL.out; omega))
          have HROW := Lib.hid hrow
          have HP := Lib.hid hP
          have hrd := HPK2.out.1
          have HH := HHO.out wc oa N oc f p2 P hrd hNl HRJ3.out.lo (by have := HRJ3.out.hi; omega) (fun j q e hq => HRJ3.out.old j q (by have := HRJ3.out.hi; omega) hq) hb3
          have HHH := Lib.hid HH
          have HM1 := Lib.hid hm1
          have HM2 := Lib.hid hm2
          have HT1 := Lib.hid ht1
          have HT2 := Lib.hid ht2
          have htle : t ≤ s.size := hrow.2.1
          have htf : f < t := hrow.1
          clear hP hb3 hPL hrow HH HRJ2 hm1 hm2 ht1 ht2 hrd e2 hB hB' HRJ
          gi_wp2_with fail
          refine (HHH.out).mono ?_
          rintro e w3 ⟨rfl, rfl⟩
          have hk4 := HK2.out
          have hpk4 := HPK2.out
          obtain ⟨C, hC, hC'⟩ : ∃ C : Bool, (C = true → (0 : Int) ≤ P) ∧ (C = false → ¬ (0 : Int) ≤ P) := ⟨decide ((0 : Int) ≤ P), fun h => by simpa using h, fun h => by simpa using h⟩
          gi_upto_if 37 with fail
          gi_cut [7] from 38 (fun v7 wx => v7 = .int .i64 (m : Int) ∧ wx = w3)
          case first =>
            by_cases hc : (0 : Int) ≤ P
            · obtain ⟨j, rfl⟩ : ∃ j : Nat, P = (j : Nat) := ⟨P.toNat, by omega⟩
              obtain ⟨q, hq, hqt⟩ := HM2.out j rfl
              have hjN : (j : Int) < (N : Int) := by have := (List.getElem?_eq_some_iff.1 hq).1; have := HNL.out; omega
              obtain ⟨ob, rfl, _, _, _, a2, _, _⟩ := hpk4.1.get hq
              rw [hqt] at a2
              clear hq hqt hC hC'
              gi_wp2
              gi_meet
              exact ⟨rfl, rfl⟩
            · have hm := HM1.out (by omega)
              subst hm
              clear hC hC'
              gi_wp2
              gi_meet
              exact ⟨rfl, rfl⟩
          case rest =>
            obtain ⟨rfl, rfl⟩ := hcut
            gi_upto_if 46 with fail
            gi_cut [7] from 43 (fun v7 wx => v7 = .int .i64 (t : Int) ∧ wx = wc)
            case first =>
              by_cases hc : b2 < N
              · obtain ⟨q, hq, hqt⟩ := HT1.out hc
                have hjN : (b2 : Int) < (N : Int) := by omega
                have q2 : (0 : Int) ≤ (b2 : Int) := by omega
                obtain ⟨ob, rfl, _, _, a1, _, _, _⟩ := hpk4.1.get hq
                obtain ⟨qf, hqf⟩ : ∃ qf, q.frm = qf := ⟨_, rfl⟩
                rw [hqf] at a1 hqt
                clear hq hqf hC hC'
                have hmn : (if (m : Int) < (qf : Int) then (m : Int) else (qf : Int)) = (t : Int) := by split <;> omega
                have hmn2 : (if (qf : Int) < (m : Int) then (qf : Int) else (m : Int)) = (t : Int) := by split <;> omega
                have HQT := Lib.hid hqt
                clear hqt hmn hmn2
                gi_wp2
                all_goals
                  gi_meet
                  have := HQT.out
                  exact ⟨by congr 1; omega, rfl⟩
              · have hm := HT2.out hc
                subst hm
                have hjN : ¬ (b2 : Int) < (N : Int) := by omega
                clear hC hC'
                gi_wp2
                gi_meet
                exact ⟨rfl, rfl⟩
            case rest =>
              obtain ⟨rfl, rfl⟩ := hcut
              obtain ⟨fn, tmps, assign, body, hy, hR⟩ := HY.out pre ⟨P, f, t⟩ wc HJS.out (by have := HT.out.len; omega)
              clear hC hC'
              gi_wp2
              refine hR.mono ?_
              rintro e W' (⟨rfl, hJ3, hk3⟩ | ⟨rfl, hJx3⟩)
              · gi_wp2
                go_roundw
                case rel =>
                  obtain ⟨r1, r2, r3, r4, r5⟩ := HROW.out
                  rw [HP.out] at r3 r4 r5
                  refine ⟨t, b2, P, pre ++ [⟨P, f, t⟩], rfl, rfl, rfl, ?_, r5, hJ3, kpP_t HKP.out hk3⟩
                  have := HT.out.snoc r1 r2 (fun a h1 h2 => (r3 a h1 h2).trans HP.out.symm) (fun h e => r4 h (e.trans HP.out))
                  rw [HP.out] at this
                  exact this
                case measure => simp [intOf]; omega
              · gi_wp2
                refine bodyPost_ret (results_none rfl _ _ _) rfl ?_
                exact ⟨⟨_, rfl⟩, .inr ⟨_, trivial, hJx3⟩⟩
    · obtain rfl : s.size = f := by omega
      gi_wp2
      go_end0
      exact ⟨⟨_, rfl⟩, .inl ⟨_, hT, hJs⟩⟩
end Go.Proofs.Ytholjhdjlhkocaa

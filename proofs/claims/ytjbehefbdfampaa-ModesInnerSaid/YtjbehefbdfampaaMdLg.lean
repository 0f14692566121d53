/- What layer 6's statement ModesQuoted does. No condition but that the texts' lengths fit an int. -/
import Derived.Test.YtjbehefbdfampaaMdS
import Derived.Test.YtjbehefbdfampaaMdQ
import Derived.Laws.StructEq
import Derived.Deep.CutRange
import Derived.Deep.DeepCutAuto
namespace Go.Proofs.Ytjbehefbdfampaa
open Go.RowKit
set_option linter.unusedVariables false

theorem inB_by8 {c : Nat} {t : ByteArray} (h : inB c t = false) : ∀ i, i < t.size → by8 t i ≠ c := by
  intro i hi e
  have : inB c t = true := (inB_split c t).2 ⟨i, hi, e⟩
  rw [h] at this
  cases this
theorem rs_st {w : World} {b : Nat} {v : Value} {st : List Fr} (h : Rs w b v st.reverse) : ∃ g cap, v = .slice (some ⟨g, 0, none⟩) st.length cap ∧ b ≤ g ∧ Fw w g cap st.reverse := by
  obtain ⟨g, cap, h1, h2, h3⟩ := h
  exact ⟨g, cap, by rw [h1, List.length_reverse], h2, h3⟩
theorem fw_below {w w' : World} {g cap : Nat} {l : List Fr} (h : Fw w g cap l) (hb : Below w.heap.size w w') : Fw w' g cap l := h.frm (Frm.of_below (p := fun _ => False) hb) (fun h => h)
/-- When two frames are the same. -/
theorem eq_frame (a b c d : Int) (w : World) : (Op.equalIn 10000 41 (.agg #[.int .i64 a, .int .i64 b]) (.agg #[.int .i64 c, .int .i64 d])).run Try.prog w = .ok (a == c && b == d) w := by
  have u3 := Try.underlying3
  have a3 := Try.isAgg3
  have z3 := Try.sizeOf3
  have hS : Try.prog.underlying 41 = some (.struct (Try.prog.fieldsOf 41)) := by kernel_rfl
  rw [show (10000 : Nat) = 9999 + 1 from rfl, run_equalIn_agg w 9999 41 _ _ hS (by kernel_rfl)]
  simp only [Program.fieldsOf, Try.underlying41]
  go_simp
  by_cases h1 : a = c <;> by_cases h2 : b = d <;> simp [h1, h2]
/-- Two frames that are the same aren't different. -/
theorem neq_frame (a b : Int) (w : World) : (binOp .neq 41 (.agg #[.int .i64 a, .int .i64 b]) (.agg #[.int .i64 a, .int .i64 b])).run Try.prog w = .ok (.bool false) w := by
  rw [run_neq_struct, eq_frame]
  simp [Result.andThen]

def qB : ByteArray := ⟨#[39]⟩
theorem feed_quote {x : Ms} (hI : Inv x) (ht : top x.st = 0 ∨ top x.st = 1 ∨ top x.st = 2 ∨ top x.st = 7) (p : Nat) : feed x 39 p = ⟨(4, p) :: x.st, false⟩ := by
  obtain ⟨st, fr⟩ := x
  cases st with
  | nil => exact absurd hI.good (by simp [good])
  | cons a r =>
    obtain ⟨m, f⟩ := a
    have hm : m = 0 ∨ m = 1 ∨ m = 2 ∨ m = 7 := ht
    rw [feed_plain' (by omega) (by omega) (by omega)]
    rcases hm with rfl | rfl | rfl | rfl
    · rfl
    · rfl
    · rfl
    · have : fr = false := by
        rw [Bool.eq_false_iff]
        intro e
        have h2 := hI.fr.2 e
        simp [isProg, top] at h2
      subst this
      rfl
theorem quoted_b {s t : ByteArray} (ht : top (runK s s.size).st = 0 ∨ top (runK s s.size).st = 1 ∨ top (runK s s.size).st = 2 ∨ top (runK s s.size).st = 7) (hq : inB 39 t = false) :
    runK ((s ++ qB) ++ t) ((s ++ qB) ++ t).size = ⟨(4, s.size) :: (runK s s.size).st, false⟩ := by
  have e1 : runK (s ++ qB) (s ++ qB).size = ⟨(4, s.size) :: (runK s s.size).st, false⟩ := by
    have hz : (s ++ qB).size = s.size + 1 := by rw [ByteArray.size_append]; rfl
    rw [hz, runK_app s qB (by decide)]
    show feed (runK s s.size) (by8 qB 0) (s.size + 0) = _
    rw [show by8 qB 0 = 39 by decide, Nat.add_zero]
    exact feed_quote (runK_inv s _) ht _
  have hz : ((s ++ qB) ++ t).size = (s ++ qB).size + t.size := by rw [ByteArray.size_append]
  rw [hz, runK_app (s ++ qB) t (Nat.le_refl _), e1]
  exact run_quoted _ _ _ _ _ _ (fun i hi => inB_by8 hq i hi)
theorem quoted_c {s t : ByteArray} (ht : top (runK s s.size).st = 0 ∨ top (runK s s.size).st = 1 ∨ top (runK s s.size).st = 2 ∨ top (runK s s.size).st = 7) (hq : inB 39 t = false) :
    runK (((s ++ qB) ++ t) ++ qB) (((s ++ qB) ++ t) ++ qB).size = ⟨(runK s s.size).st, false⟩ := by
  have hz : (((s ++ qB) ++ t) ++ qB).size = ((s ++ qB) ++ t).size + 1 := by rw [ByteArray.size_append]; rfl
  rw [hz, runK_app _ qB (by decide), quoted_b ht hq]
  show feed ⟨(4, s.size) :: (runK s s.size).st, false⟩ (by8 qB 0) _ = _
  rw [show by8 qB 0 = 39 by decide]
  rfl
set_option maxRecDepth 100000 in
set_option maxHeartbeats 8000000 in
theorem quoted_in (s t : ByteArray) (w : World) (hs : s.size ≤ 100) (ht : t.size ≤ 100) (hq : inB 39 t = false) :
    Calls Try.prog 9 #[.string s, .string t] w fun e w' => e = .returned (.bool true) ∧ Below w.heap.size w w' := by
  have t1 : decide ((100 : Int) < s.size) = false := decide_eq_false_iff_not.2 (by omega)
  have t2 : decide ((100 : Int) < t.size) = false := decide_eq_false_iff_not.2 (by omega)
  have hin := fun W => in_any 39 t W (by omega)
  rw [hq] at hin
  have hrun := fun W => run_any W s (by omega)
  have hrb := fun W => run_any W ((s ++ qB) ++ t) (by rw [ByteArray.size_append, ByteArray.size_append]; show s.size + 1 + t.size ≤ _; omega)
  have hrc := fun W => run_any W (((s ++ qB) ++ t) ++ qB) (by rw [ByteArray.size_append, ByteArray.size_append, ByteArray.size_append]; show s.size + 1 + t.size + 1 ≤ _; omega)
  have hI := runK_inv s s.size
  have hlen := runK_len s s.size
  have hne := hI.ne
  have hqb := quoted_b (s := s) (t := t)
  have hqc := quoted_c (s := s) (t := t)
  obtain ⟨x, hx⟩ : ∃ x, runK s s.size = x := ⟨_, rfl⟩
  rw [hx] at hI hlen hne hqb hqc
  simp only [hx] at hrun
  have HQB := Lib.hid hqb
  have HQC := Lib.hid hqc
  have HRB := Lib.hid hrb
  have HRC := Lib.hid hrc
  have HQ := Lib.hid hq
  clear hqb hqc hrb hrc hx hq
  obtain ⟨st, fr⟩ := x
  cases st with
  | nil => simp at hne
  | cons a r =>
    obtain ⟨m, f⟩ := a
    have hle := good_le hI.good
    have HI := Lib.hid hI
    clear hI hne
    simp only [List.length_cons] at hlen
    by_cases hm : m = 0 ∨ m = 1 ∨ m = 2 ∨ m = 7
    · have hb := HQB.out hm HQ.out
      have hc := HQC.out hm HQ.out
      have HB2 := Lib.hid hb
      have HC2 := Lib.hid hc
      clear hb hc
      obtain ⟨SB, hSB⟩ : ∃ SB, (s ++ qB) ++ t = SB := ⟨_, rfl⟩
      obtain ⟨SC, hSC⟩ : ∃ SC, SB ++ qB = SC := ⟨_, rfl⟩
      have hrb := fun W => HRB.out W
      have hrc := fun W => HRC.out W
      simp only [HB2.out] at hrb
      simp only [HC2.out] at hrc
      obtain ⟨z, hz⟩ : ∃ z, z = r.length + 1 := ⟨_, rfl⟩
      obtain ⟨k, hk⟩ : ∃ k, r.length = k := ⟨_, rfl⟩
      have e1 : IntKind.i64.wrap ((z : Int) - 1) = (k : Int) := by rw [IntWalk.i64_in _ (by omega)]; omega
      have q1 : (k : Int) < (z : Int) := by omega
      have q0 : (0 : Int) ≤ (k : Int) := by omega
      have q2 : ((z : Int) == 0) = false := beq_eq_false_iff_ne.2 (by omega)
      have hz8 : z ≤ 202 := by omega
      have q3 : (z : Int) < ((z + 1 : Nat) : Int) := by omega
      have q4 : (z : Int) < (z : Int) + 1 := by omega
      have q5 : (0 : Int) ≤ (z : Int) := by omega
      have HM := Lib.hid hm
      have HSB := Lib.hid hSB
      have HSC := Lib.hid hSC
      clear hm hSB hSC
      have key : ∃ u : Nat, m = u ∧ (u = 0 ∨ u = 1 ∨ u = 2 ∨ u = 7) := ⟨m, rfl, HM.out⟩
      clear key
      have hm2 := HM.out
      rcases hm2 with rfl | rfl | rfl | rfl
      all_goals
        go_enter Try.func9, Try.ntmps9
        go_wp2_with fail
        refine (awake_any _).mono ?_
        rintro e w1 ⟨rfl, hb1⟩
        go_wp2_with fail
        refine (hin _).mono ?_
        rintro e w2 ⟨rfl, rfl⟩
        go_wp2_with fail
        refine (hrun _).mono ?_
        rintro e w3 ⟨⟨v, rfl, hRs⟩, hb3⟩
        obtain ⟨ga, capa, rfl, hga, hFa⟩ := rs_st hRs
        have ca := (hFa.cell (j := r.length) (x := (_, f)) (by simp; rfl)).1
        simp only at ca
        rw [hk] at ca
        simp only [List.length_cons, hk]
        go_wp2_with fail
        refine (hrb _).mono ?_
        rintro e w4 ⟨⟨v4, rfl, hRs4⟩, hb4⟩
        obtain ⟨gb, capb, rfl, hgb, hFb⟩ := rs_st (st := (4, s.size) :: (_, f) :: r) hRs4
        have cb := hFb.cell (j := r.length + 1) (x := (4, s.size)) (by simp)
        obtain ⟨cb1, cb2⟩ := cb
        simp only at cb1 cb2
        rw [hk] at cb1 cb2
        simp only [List.length_cons, hk]
        go_wp2_with fail
        refine (hrc _).mono ?_
        rintro e w5 ⟨⟨v5, rfl, hRs5⟩, hb5⟩
        obtain ⟨gc, capc, rfl, hgc, hFc⟩ := rs_st (st := (_, f) :: r) hRs5
        simp only [List.length_cons, hk]
        have db1 := (hb5.cell (p := ⟨gb, (k + 1) * 2, none⟩) hFb.lt).trans cb1
        have db2 := (hb5.cell (p := ⟨gb, (k + 1) * 2 + 1, none⟩) hFb.lt).trans cb2
        have hFa5 := fw_below (fw_below hFa hb4) hb5
        have hFb5 := fw_below hFb hb5
        have hB5 : Below w.heap.size w w5 := ((hb1.trans (hb3.mono hb1.size)).trans (hb4.mono (Nat.le_trans hb1.size hb3.size))).trans (hb5.mono (Nat.le_trans (Nat.le_trans hb1.size hb3.size) hb4.size))
        have hFL : ∃ L : List Fr, L.length = k + 1 ∧ Fw w5 ga capa L ∧ Fw w5 gb capb (L ++ [(4, s.size)]) ∧ Fw w5 gc capc L := ⟨_, by simp [hk], hFa5, by rw [List.reverse_cons] at hFb5; exact hFb5, hFc⟩
        obtain ⟨L, hL, hLa, hLb, hLc⟩ := hFL
        have HL := Lib.hid hL
        clear cb1 cb2 ca hL
        go_wp2
        go_loopw [11] (fun v wr => ∃ i : Nat, v = .int .i64 i ∧ i ≤ k + 1 ∧ Below w5.heap.size w5 wr) (fun v _ => k + 1 - (intOf v).toNat)
        case atStart => exact ⟨0, rfl, Nat.zero_le _, Below.refl _ _⟩
        case round =>
          obtain ⟨i, rfl, hi, hBr⟩ := hrel
          clear db1 db2
          by_cases hlt : i < k + 1
          · have hlt2 : (i : Int) < (k : Int) + 1 := by omega
            have hlt3 : (i : Int) < (k : Int) + 1 + 1 := by omega
            have p0 : (0 : Int) ≤ (i : Int) := by omega
            have hiL : i < L.length := by rw [HL.out]; exact hlt
            obtain ⟨y, hy⟩ : ∃ y, L[i]? = some y := ⟨_, List.getElem?_eq_getElem hiL⟩
            have hyb : (L ++ [(4, s.size)])[i]? = some y := by rw [List.getElem?_append_left hiL]; exact hy
            obtain ⟨a1, a2⟩ := (fw_below hLa hBr).cell hy
            obtain ⟨b1, b2⟩ := (fw_below hLb hBr).cell hyb
            obtain ⟨c1, c2⟩ := (fw_below hLc hBr).cell hy
            obtain ⟨ym, yf⟩ := y
            simp only at a1 a2 b1 b2 c1 c2
            have hneq := neq_frame (ym : Int) (yf : Int)
            clear hy hyb hiL
            go_wp2
            go_quiet (fail)
            go_wp2
            go_roundw
            case rel => exact ⟨i + 1, by go_num, by omega, ⟨hBr.os, hBr.tape, hBr.output, hBr.size, hBr.block⟩⟩
            case measure => simp [intOf]; omega
          · obtain rfl : i = k + 1 := by omega
            go_wp2
            go_ret
            exact ⟨rfl, hB5.trans (hBr.mono hB5.size)⟩
    · have u0 : ((m : Int) == 0) = false := beq_eq_false_iff_ne.2 (by omega)
      have u1 : ((m : Int) == 1) = false := beq_eq_false_iff_ne.2 (by omega)
      have u2 : ((m : Int) == 2) = false := beq_eq_false_iff_ne.2 (by omega)
      have u7 : ((m : Int) == 7) = false := beq_eq_false_iff_ne.2 (by omega)
      obtain ⟨z, hz⟩ : ∃ z, z = r.length + 1 := ⟨_, rfl⟩
      have e1 : IntKind.i64.wrap ((z : Int) - 1) = (r.length : Int) := by rw [IntWalk.i64_in _ (by omega)]; omega
      have q1 : (r.length : Int) < (z : Int) := by omega
      have q2 : ((z : Int) == 0) = false := beq_eq_false_iff_ne.2 (by omega)
      obtain ⟨k, hk⟩ : ∃ k, r.length = k := ⟨_, rfl⟩
      rw [hk] at e1 q1
      have q0 : (0 : Int) ≤ (k : Int) := by omega
      clear hm
      go_enter Try.func9, Try.ntmps9
      go_wp2_with fail
      refine (awake_any _).mono ?_
      rintro e w1 ⟨rfl, hb1⟩
      go_wp2_with fail
      refine (hin _).mono ?_
      rintro e w2 ⟨rfl, rfl⟩
      go_wp2_with fail
      refine (hrun _).mono ?_
      rintro e w3 ⟨⟨v, rfl, hRs⟩, hb3⟩
      obtain ⟨ga, capa, rfl, hga, hFa⟩ := rs_st hRs
      have ca := (hFa.cell (j := r.length) (x := (m, f)) (by simp)).1
      simp only at ca
      rw [hk] at ca
      simp only [List.length_cons, ← hz]
      have HZ := Lib.hid hz
      have HK := Lib.hid hk
      clear hz hk
      go_wp2
      go_ret
      exact ⟨rfl, hb1.trans (hb3.mono hb1.size)⟩
set_option maxHeartbeats 4000000 in
theorem quoted_law (s t : ByteArray) (w : World) (hs : s.size ≤ 9223372036854775807) (ht : t.size ≤ 9223372036854775807) :
    Calls Try.prog 9 #[.string s, .string t] w fun e w' => e = .returned (.bool true) ∧ Below w.heap.size w w' := by
  by_cases h1 : 100 < s.size
  · have t1 : decide ((100 : Int) < s.size) = true := decide_eq_true_iff.2 (by omega)
    go_enter Try.func9, Try.ntmps9
    go_wp2_with fail
    refine (awake_any _).mono ?_
    rintro e w1 ⟨rfl, hb1⟩
    go_wp2
    go_ret
    exact ⟨rfl, hb1⟩
  have t1 : decide ((100 : Int) < s.size) = false := decide_eq_false_iff_not.2 (by omega)
  by_cases h2 : 100 < t.size
  · have t2 : decide ((100 : Int) < t.size) = true := decide_eq_true_iff.2 (by omega)
    go_enter Try.func9, Try.ntmps9
    go_wp2_with fail
    refine (awake_any _).mono ?_
    rintro e w1 ⟨rfl, hb1⟩
    go_wp2
    go_ret
    exact ⟨rfl, hb1⟩
  have t2 : decide ((100 : Int) < t.size) = false := decide_eq_false_iff_not.2 (by omega)
  cases hq : inB 39 t with
  | true =>
    have hin := fun W => in_any 39 t W (by omega)
    rw [hq] at hin
    clear hq
    go_enter Try.func9, Try.ntmps9
    go_wp2_with fail
    refine (awake_any _).mono ?_
    rintro e w1 ⟨rfl, hb1⟩
    go_wp2_with fail
    refine (hin _).mono ?_
    rintro e w2 ⟨rfl, rfl⟩
    go_wp2
    go_ret
    exact ⟨rfl, hb1⟩
  | false => exact quoted_in s t w (by omega) (by omega) hq
end Go.Proofs.Ytjbehefbdfampaa

/- What layer 6's statement ModesInner does. No condition but that the texts' lengths fit an int. -/
import Derived.Test.YtjbehefbdfampaaMdLg
namespace Go.Proofs.Ytjbehefbdfampaa
open Go.RowKit
set_option linter.unusedVariables false

/-- No frame began behind the last byte. -/
def Upto (q : Nat) (st : List Fr) : Prop := ∀ x ∈ st, x.2 ≤ q
theorem upto_run {q : Nat} (v : Mv) {st : List Fr} (h : Upto q st) : Upto q (v.run st q) := by
  cases v with
  | keep => exact h
  | push m =>
    intro x hx
    rcases List.mem_cons.1 hx with rfl | hx
    · exact Nat.le_refl _
    · exact h x hx
  | pop => exact fun x hx => h x (List.mem_of_mem_tail hx)
  | turn m =>
    cases st with
    | nil => exact h
    | cons a r =>
      intro x hx
      rcases List.mem_cons.1 hx with rfl | hx
      · exact h a (by simp)
      · exact h x (by simp [hx])
theorem upto_plain {q : Nat} {st : List Fr} (h : Upto q st) (fr : Bool) (b : Nat) : Upto q (plainF st fr b q).st := by
  cases st with
  | nil => exact h
  | cons a r => exact upto_run _ h
theorem upto_turn {q m n f : Nat} {r : List Fr} (h : Upto q ((m, f) :: r)) : Upto q ((n, f) :: r) := by
  intro x hx
  rcases List.mem_cons.1 hx with rfl | hx
  · exact h (m, f) (by simp)
  · exact h x (by simp [hx])
theorem upto_tail {q : Nat} {a : Fr} {r : List Fr} (h : Upto q (a :: r)) : Upto q r := fun x hx => h x (by simp [hx])
theorem upto_feed {q : Nat} {x : Ms} (h : Upto q x.st) (b : Nat) : Upto q (feed x b q).st := by
  obtain ⟨st, fr⟩ := x
  cases st with
  | nil => exact h
  | cons a r =>
    obtain ⟨m, f⟩ := a
    have h' : Upto q ((m, f) :: r) := h
    unfold feed
    simp only
    by_cases h12 : m = 12
    · rw [if_pos h12]
      split
      · exact upto_turn h'
      split
      · exact upto_turn h'
      split
      · exact upto_tail h'
      · exact upto_plain (upto_tail h') _ _
    rw [if_neg h12]
    by_cases h3 : m = 3
    · rw [if_pos h3]
      split
      · exact upto_turn h'
      · exact upto_plain (upto_turn h') _ _
    rw [if_neg h3]
    by_cases h11 : m = 11
    · rw [if_pos h11]
      split
      · exact upto_tail h'
      · exact upto_plain (upto_turn h') _ _
    rw [if_neg h11]
    exact upto_plain h' _ _
theorem upto_runG {x : Ms} {p : Nat} (h : Upto p x.st) (β : Nat → Nat) : ∀ k, Upto (p + k) (runG x β p k).st
  | 0 => h
  | k + 1 => by
    have h1 := upto_feed (x := runG x β p k) (upto_runG h β k) (β k)
    exact fun y hy => Nat.le_trans (h1 y hy) (by omega)
theorem upto_runK (s : ByteArray) (k : Nat) : Upto k (runK s k).st := by
  have := upto_runG (x := Ms.start) (p := 0) (fun x hx => by simp [Ms.start] at hx; subst hx; exact Nat.le_refl _) (by8 s) k
  rwa [Nat.zero_add] at this

def dB : ByteArray := ⟨#[36, 40]⟩
/-- May a dollar open something here? -/
def opensD (m : Nat) : Prop := m = 0 ∨ m = 1 ∨ m = 2 ∨ m = 5 ∨ m = 7 ∨ m = 8 ∨ m = 9 ∨ m = 10
theorem feed_dollar {x : Ms} (hI : Inv x) (ht : opensD (top x.st)) (p : Nat) : feed (feed x 36 p) 40 (p + 1) = ⟨(3, p) :: x.st, true⟩ := by
  obtain ⟨st, fr⟩ := x
  cases st with
  | nil => exact absurd hI.good (by simp [good])
  | cons a r =>
    obtain ⟨m, f⟩ := a
    have hm : opensD m := ht
    unfold opensD at hm
    have e : ∃ fr2, feed ⟨(m, f) :: r, fr⟩ 36 p = ⟨(12, p) :: (m, f) :: r, fr2⟩ := by
      rw [feed_plain' (by omega) (by omega) (by omega)]
      rcases hm with rfl | rfl | rfl | rfl | rfl | rfl | rfl | rfl <;> exact ⟨_, rfl⟩
    obtain ⟨fr2, e⟩ := e
    rw [e]
    rfl
theorem inner_states {s t : ByteArray} (ht : opensD (top (runK s s.size).st)) (hq : inB 41 t = false) :
    ∃ v : List Fr, ∃ fr2, 1 ≤ v.length ∧ v.length ≤ t.size + 1 ∧ (runK (dB ++ t) (dB ++ t).size).st.reverse = (0, 0) :: v ∧ (runK (dB ++ t) (dB ++ t).size).fresh = fr2 ∧
      (runK ((s ++ dB) ++ t) ((s ++ dB) ++ t).size).st.reverse = (runK s s.size).st.reverse ++ shift s.size v ∧ (runK ((s ++ dB) ++ t) ((s ++ dB) ++ t).size).fresh = fr2 := by
  have b0 : by8 dB 0 = 36 := by decide
  have b1 : by8 dB 1 = 40 := by decide
  have e1 : runK dB dB.size = ⟨[(3, 0), (0, 0)], true⟩ := by
    show feed (feed Ms.start (by8 dB 0) (0 + 0)) (by8 dB 1) (0 + 1) = _
    rw [b0, b1]
    rfl
  have e2 : runK (s ++ dB) (s ++ dB).size = ⟨(3, s.size) :: (runK s s.size).st, true⟩ := by
    have hz : (s ++ dB).size = s.size + 2 := by rw [ByteArray.size_append]; rfl
    rw [hz, runK_app s dB (by decide)]
    show feed (feed (runK s s.size) (by8 dB 0) (s.size + 0)) (by8 dB 1) (s.size + 1) = _
    rw [b0, b1, Nat.add_zero]
    exact feed_dollar (runK_inv s _) ht _
  have hI : Inv ⟨[(3, 0)] ++ [(0, 0)], true⟩ := by
    have := runK_inv dB dB.size
    rw [e1] at this
    exact this
  obtain ⟨u2, fr2, hr, hI2, hrun⟩ := run_inner (by8 t) 2 (u := [(3, 0)]) (fr := true) (by simp [rooted]) hI t.size (fun i hi => inB_by8 hq i hi)
  have z1 : (dB ++ t).size = dB.size + t.size := by rw [ByteArray.size_append]
  have z2 : ((s ++ dB) ++ t).size = (s ++ dB).size + t.size := by rw [ByteArray.size_append]
  have f1 : runK (dB ++ t) (dB ++ t).size = ⟨u2 ++ [(0, 0)], fr2⟩ := by
    rw [z1, runK_app dB t (Nat.le_refl _), e1]
    have := hrun 0 [(0, 0)]
    have hz : dB.size = 2 := rfl
    rw [hz]
    simpa [shift] using this
  have f2 : runK ((s ++ dB) ++ t) ((s ++ dB) ++ t).size = ⟨shift s.size u2 ++ (runK s s.size).st, fr2⟩ := by
    rw [z2, runK_app (s ++ dB) t (Nat.le_refl _), e2]
    have := hrun s.size (runK s s.size).st
    have hz : (s ++ dB).size = 2 + s.size := by rw [ByteArray.size_append]; show s.size + 2 = _; omega
    rw [hz]
    simpa [shift] using this
  have hu : 1 ≤ u2.length := by
    cases u2 with
    | nil => exact absurd hr (by simp [rooted])
    | cons a b => simp
  have hl : u2.length ≤ t.size + 1 := by
    have h1 := runG_len ⟨[(3, 0)], true⟩ (by8 t) 2 t.size
    have h2 := hrun 0 []
    simp only [shift, List.append_nil, Nat.add_zero] at h2
    have e3 : List.map (fun x : Fr => (x.1, x.2)) [(3, 0)] = [(3, 0)] := rfl
    rw [e3] at h2
    rw [h2] at h1
    simp at h1
    omega
  refine ⟨u2.reverse, fr2, by simpa using hu, by simpa using hl, ?_, by rw [f1], ?_, by rw [f2]⟩
  · rw [f1]; simp
  · rw [f2]; simp [shift, List.map_reverse]

set_option maxRecDepth 100000 in
set_option maxHeartbeats 8000000 in
theorem inner_0 (s t : ByteArray) (w : World) (hs : s.size ≤ 100) (ht : t.size ≤ 100) (hq : inB 41 t = false) (f : Nat) (r : List Fr) (fr : Bool) (hx : runK s s.size = ⟨(0, f) :: r, fr⟩) :
    Calls Try.prog 8 #[.string s, .string t] w fun e w' => e = .returned (.bool true) ∧ Below w.heap.size w w' := by
  have t1 : decide ((100 : Int) < s.size) = false := decide_eq_false_iff_not.2 (by omega)
  have t2 : decide ((100 : Int) < t.size) = false := decide_eq_false_iff_not.2 (by omega)
  have hin := fun W => in_any 41 t W (by omega)
  rw [hq] at hin
  have hrun := fun W => run_any W s (by omega)
  have hrb := fun W => run_any W (dB ++ t) (by rw [ByteArray.size_append]; show 2 + t.size ≤ _; omega)
  have hrc := fun W => run_any W ((s ++ dB) ++ t) (by rw [ByteArray.size_append, ByteArray.size_append]; show s.size + 2 + t.size ≤ _; omega)
  have hlen := runK_len s s.size
  have hst := inner_states (s := s) (t := t)
  rw [hx] at hlen hst
  simp only [hx] at hrun
  have HST := Lib.hid hst
  have HRB := Lib.hid hrb
  have HRC := Lib.hid hrc
  have HQ := Lib.hid hq
  clear hst hrb hrc hx hq
  simp only [List.length_cons] at hlen
  obtain ⟨z, hz⟩ : ∃ z, z = r.length + 1 := ⟨_, rfl⟩
  obtain ⟨k, hk⟩ : ∃ k, r.length = k := ⟨_, rfl⟩
  have e1 : IntKind.i64.wrap ((z : Int) - 1) = (k : Int) := by rw [IntWalk.i64_in _ (by omega)]; omega
  have q1 : (k : Int) < (z : Int) := by omega
  have q0 : (0 : Int) ≤ (k : Int) := by omega
  have q2 : ((z : Int) == 0) = false := beq_eq_false_iff_ne.2 (by omega)
  have hz8 : z ≤ 102 := by omega
  obtain ⟨v, fr2, hv1, hv2, hbs, hbf, hcs, hcf⟩ := HST.out (by show opensD 0; unfold opensD; decide) HQ.out
  have hup : Upto (2 + t.size) v := by
    have h1 := upto_runK (dB ++ t) (dB ++ t).size
    rw [show (dB ++ t).size = 2 + t.size by rw [ByteArray.size_append]; rfl] at h1
    intro q hq2
    have h2 : q ∈ (runK (dB ++ t) (dB ++ t).size).st.reverse := by rw [hbs]; simp [hq2]
    rw [show (dB ++ t).size = 2 + t.size by rw [ByteArray.size_append]; rfl] at h2
    exact h1 q (by simpa using h2)
  have HUP := Lib.hid hup
  simp only [hbf] at HRB
  simp only [hcf] at HRC
  have hrb := fun W => HRB.out W
  have hrc := fun W => HRC.out W
  simp only [hbs] at hrb
  simp only [hcs] at hrc
  obtain ⟨y, hy⟩ : ∃ y, v.length = y := ⟨_, rfl⟩
  have HV := Lib.hid hy
  have hy1 : 1 ≤ y := by omega
  have hy2 : y ≤ 101 := by omega
  have HZ := Lib.hid hz
  have HK := Lib.hid hk
  clear HRB HRC hbs hbf hcs hcf hv1 hv2 hy hup
  obtain ⟨B, hB⟩ : ∃ B, B = y + 1 := ⟨_, rfl⟩
  obtain ⟨C, hC⟩ : ∃ C, C = z + y := ⟨_, rfl⟩
  obtain ⟨D, hD⟩ : ∃ D, D = C + 1 := ⟨_, rfl⟩
  have n1 : decide ((B : Int) < 2) = false := decide_eq_false_iff_not.2 (by omega)
  have n2 : IntKind.i64.wrap ((z : Int) + (B : Int)) = (D : Int) := by rw [IntWalk.i64_in _ (by omega)]; omega
  have n3 : IntKind.i64.wrap ((D : Int) - 1) = (C : Int) := by rw [IntWalk.i64_in _ (by omega)]; omega
  have n4 : ¬ (B : Int) < 2 := by omega
  have hB8 : B ≤ 102 := by omega
  have HB := Lib.hid hB
  have HC := Lib.hid hC
  clear hB hC hD hk hz
  go_enter Try.func8, Try.ntmps8
  go_wp2_with fail
  refine (awake_any _).mono ?_
  rintro e w1 ⟨rfl, hb1⟩
  go_wp2_with fail
  refine (hin _).mono ?_
  rintro e w2 ⟨rfl, rfl⟩
  go_wp2_with fail
  refine (hrun _).mono ?_
  rintro e w3 ⟨⟨vv, rfl, hRs⟩, hb3⟩
  obtain ⟨ga, capa, rfl, hga, hFa⟩ := rs_st hRs
  have ca := (hFa.cell (j := r.length) (x := (0, f)) (by simp)).1
  simp only at ca
  rw [HK.out] at ca
  rw [show ((0, f) :: r : List Fr).length = z by simp only [List.length_cons]; exact HZ.out.symm]
  go_wp2_with fail
  refine (hrb _).mono ?_
  rintro e w4 ⟨⟨v4, rfl, hRs4⟩, hb4⟩
  obtain ⟨gb, capb, hvb, hgb, hFb⟩ := hRs4
  rw [show ((0, 0) :: v : List Fr).length = B by simp only [List.length_cons, HV.out, HB.out]] at hvb
  subst hvb
  go_wp2_with fail
  refine (hrc _).mono ?_
  rintro e w5 ⟨⟨v5, rfl, hRs5⟩, hb5⟩
  obtain ⟨gc, capc, hvc, hgc, hFc⟩ := hRs5
  rw [show (((0, f) :: r : List Fr).reverse ++ shift s.size v).length = C by simp only [List.length_append, List.length_reverse, List.length_cons, shift_len, HV.out, HC.out, HZ.out]] at hvc
  subst hvc
  have hB5 : Below w.heap.size w w5 := ((hb1.trans (hb3.mono hb1.size)).trans (hb4.mono (Nat.le_trans hb1.size hb3.size))).trans (hb5.mono (Nat.le_trans (Nat.le_trans hb1.size hb3.size) hb4.size))
  have hFa5 := fw_below (fw_below hFa hb4) hb5
  have hFb5 := fw_below hFb hb5
  have hFL : ∃ L : List Fr, L.length = z ∧ Fw w5 ga capa L ∧ Fw w5 gc capc (L ++ shift s.size v) := ⟨_, by simp only [List.length_reverse, List.length_cons]; exact HZ.out.symm, hFa5, hFc⟩
  obtain ⟨L, hL, hLa, hLc⟩ := hFL
  have HL := Lib.hid hL
  clear ca hL
  go_wp2
  go_loopw [11] (fun v wr => ∃ i : Nat, v = .int .i64 i ∧ i ≤ z ∧ Below w5.heap.size w5 wr) (fun v _ => z - (intOf v).toNat)
  case atStart => exact ⟨0, rfl, Nat.zero_le _, Below.refl _ _⟩
  case round =>
    obtain ⟨i, rfl, hi, hBr⟩ := hrel
    by_cases hlt : i < z
    · have hlt2 : (i : Int) < (z : Int) := by omega
      have hlt3 : (i : Int) < (C : Int) := by have := HC.out; omega
      have p0 : (0 : Int) ≤ (i : Int) := by omega
      have hiL : i < L.length := by rw [HL.out]; exact hlt
      obtain ⟨y2, hy2⟩ : ∃ y2, L[i]? = some y2 := ⟨_, List.getElem?_eq_getElem hiL⟩
      have hyc : (L ++ shift s.size v)[i]? = some y2 := by rw [List.getElem?_append_left hiL]; exact hy2
      obtain ⟨a1, a2⟩ := (fw_below hLa hBr).cell hy2
      obtain ⟨c1, c2⟩ := (fw_below hLc hBr).cell hyc
      obtain ⟨ym, yf⟩ := y2
      simp only at a1 a2 c1 c2
      have hneq := neq_frame (ym : Int) (yf : Int)
      clear hy2 hyc hiL
      go_wp2
      go_quiet (fail)
      go_wp2
      go_roundw
      case rel => exact ⟨i + 1, by go_num, by omega, ⟨hBr.os, hBr.tape, hBr.output, hBr.size, hBr.block⟩⟩
      case measure => simp [intOf]; omega
    · obtain rfl : i = z := by omega
      go_wp2
      go_loopw [12] (fun v wr => ∃ j : Nat, v = .int .i64 j ∧ 1 ≤ j ∧ j ≤ B ∧ Below w5.heap.size w5 wr) (fun v _ => B - (intOf v).toNat)
      case atStart => exact ⟨1, rfl, Nat.le_refl _, by have := HB.out; omega, hBr⟩
      case round =>
        obtain ⟨j, rfl, hj1, hj2, hBr2⟩ := hrel
        by_cases hjl : j < B
        · have hjl2 : (j : Int) < (B : Int) := by omega
          obtain ⟨d, rfl⟩ : ∃ d, j = d + 1 := ⟨j - 1, by omega⟩
          have hdv : d < v.length := by have := HB.out; rw [HV.out]; omega
          have hd8 : d ≤ 101 := by omega
          obtain ⟨y3, hy3⟩ : ∃ y3, v[d]? = some y3 := ⟨_, List.getElem?_eq_getElem hdv⟩
          have hub := HUP.out y3 (List.mem_of_getElem? hy3)
          have hyb : ((0, 0) :: v)[d + 1]? = some y3 := by rw [List.getElem?_cons_succ]; exact hy3
          have hyc : (L ++ shift s.size v)[i + d]? = some (y3.1, y3.2 + s.size) := by
            rw [List.getElem?_append_right (by rw [HL.out]; omega), HL.out, show i + d - i = d by omega]
            unfold shift
            rw [List.getElem?_map, hy3]
            rfl
          obtain ⟨b1, b2⟩ := (fw_below hFb5 hBr2).cell hyb
          obtain ⟨c1, c2⟩ := (fw_below hLc hBr2).cell hyc
          obtain ⟨ym, yf⟩ := y3
          simp only at b1 b2 c1 c2 hub
          obtain ⟨J, hJ⟩ : ∃ J, J = d + 1 := ⟨_, rfl⟩
          obtain ⟨E, hE⟩ : ∃ E, E = i + d := ⟨_, rfl⟩
          obtain ⟨E2, hE2⟩ : ∃ E2, E2 = E + 1 := ⟨_, rfl⟩
          obtain ⟨G, hG⟩ : ∃ G, G = yf + s.size := ⟨_, rfl⟩
          rw [← hJ] at b1 b2 hjl2 ⊢
          rw [← hE] at c1 c2
          rw [← hG] at c2
          have r1 : IntKind.i64.wrap ((i : Int) + (J : Int)) = (E2 : Int) := by rw [IntWalk.i64_in _ (by omega)]; omega
          have r2 : IntKind.i64.wrap ((E2 : Int) - 1) = (E : Int) := by rw [IntWalk.i64_in _ (by omega)]; omega
          have r3 : IntKind.i64.wrap ((yf : Int) + (s.size : Int)) = (G : Int) := by rw [IntWalk.i64_in _ (by omega)]; omega
          have r4 : (E : Int) < (C : Int) := by have h1 := HC.out; have h2 := HB.out; omega
          have r5 : (0 : Int) ≤ (E : Int) := by omega
          have r6 : (0 : Int) ≤ (J : Int) := by omega
          have HJ := Lib.hid hJ
          have hJB : J ≤ B := by omega
          have hJ1 : J + 1 ≤ B := by omega
          clear hy3 hyb hyc hdv hub hJ hE hE2 hG hj1 hj2
          go_wp2
          go_quiet (fail)
          go_wp2
          go_roundw
          case rel => exact ⟨J + 1, by go_num, by omega, by omega, ⟨hBr2.os, hBr2.tape, hBr2.output, hBr2.size, hBr2.block⟩⟩
          case measure => simp [intOf]; omega
        · obtain rfl : j = B := by omega
          go_wp2
          go_ret
          exact ⟨rfl, hB5.trans (hBr2.mono hB5.size)⟩
set_option maxRecDepth 100000 in
set_option maxHeartbeats 8000000 in
theorem inner_1 (s t : ByteArray) (w : World) (hs : s.size ≤ 100) (ht : t.size ≤ 100) (hq : inB 41 t = false) (f : Nat) (r : List Fr) (fr : Bool) (hx : runK s s.size = ⟨(1, f) :: r, fr⟩) :
    Calls Try.prog 8 #[.string s, .string t] w fun e w' => e = .returned (.bool true) ∧ Below w.heap.size w w' := by
  have t1 : decide ((100 : Int) < s.size) = false := decide_eq_false_iff_not.2 (by omega)
  have t2 : decide ((100 : Int) < t.size) = false := decide_eq_false_iff_not.2 (by omega)
  have hin := fun W => in_any 41 t W (by omega)
  rw [hq] at hin
  have hrun := fun W => run_any W s (by omega)
  have hrb := fun W => run_any W (dB ++ t) (by rw [ByteArray.size_append]; show 2 + t.size ≤ _; omega)
  have hrc := fun W => run_any W ((s ++ dB) ++ t) (by rw [ByteArray.size_append, ByteArray.size_append]; show s.size + 2 + t.size ≤ _; omega)
  have hlen := runK_len s s.size
  have hst := inner_states (s := s) (t := t)
  rw [hx] at hlen hst
  simp only [hx] at hrun
  have HST := Lib.hid hst
  have HRB := Lib.hid hrb
  have HRC := Lib.hid hrc
  have HQ := Lib.hid hq
  clear hst hrb hrc hx hq
  simp only [List.length_cons] at hlen
  obtain ⟨z, hz⟩ : ∃ z, z = r.length + 1 := ⟨_, rfl⟩
  obtain ⟨k, hk⟩ : ∃ k, r.length = k := ⟨_, rfl⟩
  have e1 : IntKind.i64.wrap ((z : Int) - 1) = (k : Int) := by rw [IntWalk.i64_in _ (by omega)]; omega
  have q1 : (k : Int) < (z : Int) := by omega
  have q0 : (0 : Int) ≤ (k : Int) := by omega
  have q2 : ((z : Int) == 0) = false := beq_eq_false_iff_ne.2 (by omega)
  have hz8 : z ≤ 102 := by omega
  obtain ⟨v, fr2, hv1, hv2, hbs, hbf, hcs, hcf⟩ := HST.out (by show opensD 1; unfold opensD; decide) HQ.out
  have hup : Upto (2 + t.size) v := by
    have h1 := upto_runK (dB ++ t) (dB ++ t).size
    rw [show (dB ++ t).size = 2 + t.size by rw [ByteArray.size_append]; rfl] at h1
    intro q hq2
    have h2 : q ∈ (runK (dB ++ t) (dB ++ t).size).st.reverse := by rw [hbs]; simp [hq2]
    rw [show (dB ++ t).size = 2 + t.size by rw [ByteArray.size_append]; rfl] at h2
    exact h1 q (by simpa using h2)
  have HUP := Lib.hid hup
  simp only [hbf] at HRB
  simp only [hcf] at HRC
  have hrb := fun W => HRB.out W
  have hrc := fun W => HRC.out W
  simp only [hbs] at hrb
  simp only [hcs] at hrc
  obtain ⟨y, hy⟩ : ∃ y, v.length = y := ⟨_, rfl⟩
  have HV := Lib.hid hy
  have hy1 : 1 ≤ y := by omega
  have hy2 : y ≤ 101 := by omega
  have HZ := Lib.hid hz
  have HK := Lib.hid hk
  clear HRB HRC hbs hbf hcs hcf hv1 hv2 hy hup
  obtain ⟨B, hB⟩ : ∃ B, B = y + 1 := ⟨_, rfl⟩
  obtain ⟨C, hC⟩ : ∃ C, C = z + y := ⟨_, rfl⟩
  obtain ⟨D, hD⟩ : ∃ D, D = C + 1 := ⟨_, rfl⟩
  have n1 : decide ((B : Int) < 2) = false := decide_eq_false_iff_not.2 (by omega)
  have n2 : IntKind.i64.wrap ((z : Int) + (B : Int)) = (D : Int) := by rw [IntWalk.i64_in _ (by omega)]; omega
  have n3 : IntKind.i64.wrap ((D : Int) - 1) = (C : Int) := by rw [IntWalk.i64_in _ (by omega)]; omega
  have n4 : ¬ (B : Int) < 2 := by omega
  have hB8 : B ≤ 102 := by omega
  have HB := Lib.hid hB
  have HC := Lib.hid hC
  clear hB hC hD hk hz
  go_enter Try.func8, Try.ntmps8
  go_wp2_with fail
  refine (awake_any _).mono ?_
  rintro e w1 ⟨rfl, hb1⟩
  go_wp2_with fail
  refine (hin _).mono ?_
  rintro e w2 ⟨rfl, rfl⟩
  go_wp2_with fail
  refine (hrun _).mono ?_
  rintro e w3 ⟨⟨vv, rfl, hRs⟩, hb3⟩
  obtain ⟨ga, capa, rfl, hga, hFa⟩ := rs_st hRs
  have ca := (hFa.cell (j := r.length) (x := (1, f)) (by simp)).1
  simp only at ca
  rw [HK.out] at ca
  rw [show ((1, f) :: r : List Fr).length = z by simp only [List.length_cons]; exact HZ.out.symm]
  go_wp2_with fail
  refine (hrb _).mono ?_
  rintro e w4 ⟨⟨v4, rfl, hRs4⟩, hb4⟩
  obtain ⟨gb, capb, hvb, hgb, hFb⟩ := hRs4
  rw [show ((0, 0) :: v : List Fr).length = B by simp only [List.length_cons, HV.out, HB.out]] at hvb
  subst hvb
  go_wp2_with fail
  refine (hrc _).mono ?_
  rintro e w5 ⟨⟨v5, rfl, hRs5⟩, hb5⟩
  obtain ⟨gc, capc, hvc, hgc, hFc⟩ := hRs5
  rw [show (((1, f) :: r : List Fr).reverse ++ shift s.size v).length = C by simp only [List.length_append, List.length_reverse, List.length_cons, shift_len, HV.out, HC.out, HZ.out]] at hvc
  subst hvc
  have hB5 : Below w.heap.size w w5 := ((hb1.trans (hb3.mono hb1.size)).trans (hb4.mono (Nat.le_trans hb1.size hb3.size))).trans (hb5.mono (Nat.le_trans (Nat.le_trans hb1.size hb3.size) hb4.size))
  have hFa5 := fw_below (fw_below hFa hb4) hb5
  have hFb5 := fw_below hFb hb5
  have hFL : ∃ L : List Fr, L.length = z ∧ Fw w5 ga capa L ∧ Fw w5 gc capc (L ++ shift s.size v) := ⟨_, by simp only [List.length_reverse, List.length_cons]; exact HZ.out.symm, hFa5, hFc⟩
  obtain ⟨L, hL, hLa, hLc⟩ := hFL
  have HL := Lib.hid hL
  clear ca hL
  go_wp2
  go_loopw [11] (fun v wr => ∃ i : Nat, v = .int .i64 i ∧ i ≤ z ∧ Below w5.heap.size w5 wr) (fun v _ => z - (intOf v).toNat)
  case atStart => exact ⟨0, rfl, Nat.zero_le _, Below.refl _ _⟩
  case round =>
    obtain ⟨i, rfl, hi, hBr⟩ := hrel
    by_cases hlt : i < z
    · have hlt2 : (i : Int) < (z : Int) := by omega
      have hlt3 : (i : Int) < (C : Int) := by have := HC.out; omega
      have p0 : (0 : Int) ≤ (i : Int) := by omega
      have hiL : i < L.length := by rw [HL.out]; exact hlt
      obtain ⟨y2, hy2⟩ : ∃ y2, L[i]? = some y2 := ⟨_, List.getElem?_eq_getElem hiL⟩
      have hyc : (L ++ shift s.size v)[i]? = some y2 := by rw [List.getElem?_append_left hiL]; exact hy2
      obtain ⟨a1, a2⟩ := (fw_below hLa hBr).cell hy2
      obtain ⟨c1, c2⟩ := (fw_below hLc hBr).cell hyc
      obtain ⟨ym, yf⟩ := y2
      simp only at a1 a2 c1 c2
      have hneq := neq_frame (ym : Int) (yf : Int)
      clear hy2 hyc hiL
      go_wp2
      go_quiet (fail)
      go_wp2
      go_roundw
      case rel => exact ⟨i + 1, by go_num, by omega, ⟨hBr.os, hBr.tape, hBr.output, hBr.size, hBr.block⟩⟩
      case measure => simp [intOf]; omega
    · obtain rfl : i = z := by omega
      go_wp2
      go_loopw [12] (fun v wr => ∃ j : Nat, v = .int .i64 j ∧ 1 ≤ j ∧ j ≤ B ∧ Below w5.heap.size w5 wr) (fun v _ => B - (intOf v).toNat)
      case atStart => exact ⟨1, rfl, Nat.le_refl _, by have := HB.out; omega, hBr⟩
      case round =>
        obtain ⟨j, rfl, hj1, hj2, hBr2⟩ := hrel
        by_cases hjl : j < B
        · have hjl2 : (j : Int) < (B : Int) := by omega
          obtain ⟨d, rfl⟩ : ∃ d, j = d + 1 := ⟨j - 1, by omega⟩
          have hdv : d < v.length := by have := HB.out; rw [HV.out]; omega
          have hd8 : d ≤ 101 := by omega
          obtain ⟨y3, hy3⟩ : ∃ y3, v[d]? = some y3 := ⟨_, List.getElem?_eq_getElem hdv⟩
          have hub := HUP.out y3 (List.mem_of_getElem? hy3)
          have hyb : ((0, 0) :: v)[d + 1]? = some y3 := by rw [List.getElem?_cons_succ]; exact hy3
          have hyc : (L ++ shift s.size v)[i + d]? = some (y3.1, y3.2 + s.size) := by
            rw [List.getElem?_append_right (by rw [HL.out]; omega), HL.out, show i + d - i = d by omega]
            unfold shift
            rw [List.getElem?_map, hy3]
            rfl
          obtain ⟨b1, b2⟩ := (fw_below hFb5 hBr2).cell hyb
          obtain ⟨c1, c2⟩ := (fw_below hLc hBr2).cell hyc
          obtain ⟨ym, yf⟩ := y3
          simp only at b1 b2 c1 c2 hub
          obtain ⟨J, hJ⟩ : ∃ J, J = d + 1 := ⟨_, rfl⟩
          obtain ⟨E, hE⟩ : ∃ E, E = i + d := ⟨_, rfl⟩
          obtain ⟨E2, hE2⟩ : ∃ E2, E2 = E + 1 := ⟨_, rfl⟩
          obtain ⟨G, hG⟩ : ∃ G, G = yf + s.size := ⟨_, rfl⟩
          rw [← hJ] at b1 b2 hjl2 ⊢
          rw [← hE] at c1 c2
          rw [← hG] at c2
          have r1 : IntKind.i64.wrap ((i : Int) + (J : Int)) = (E2 : Int) := by rw [IntWalk.i64_in _ (by omega)]; omega
          have r2 : IntKind.i64.wrap ((E2 : Int) - 1) = (E : Int) := by rw [IntWalk.i64_in _ (by omega)]; omega
          have r3 : IntKind.i64.wrap ((yf : Int) + (s.size : Int)) = (G : Int) := by rw [IntWalk.i64_in _ (by omega)]; omega
          have r4 : (E : Int) < (C : Int) := by have h1 := HC.out; have h2 := HB.out; omega
          have r5 : (0 : Int) ≤ (E : Int) := by omega
          have r6 : (0 : Int) ≤ (J : Int) := by omega
          have HJ := Lib.hid hJ
          have hJB : J ≤ B := by omega
          have hJ1 : J + 1 ≤ B := by omega
          clear hy3 hyb hyc hdv hub hJ hE hE2 hG hj1 hj2
          go_wp2
          go_quiet (fail)
          go_wp2
          go_roundw
          case rel => exact ⟨J + 1, by go_num, by omega, by omega, ⟨hBr2.os, hBr2.tape, hBr2.output, hBr2.size, hBr2.block⟩⟩
          case measure => simp [intOf]; omega
        · obtain rfl : j = B := by omega
          go_wp2
          go_ret
          exact ⟨rfl, hB5.trans (hBr2.mono hB5.size)⟩
set_option maxRecDepth 100000 in
set_option maxHeartbeats 8000000 in
theorem inner_2 (s t : ByteArray) (w : World) (hs : s.size ≤ 100) (ht : t.size ≤ 100) (hq : inB 41 t = false) (f : Nat) (r : List Fr) (fr : Bool) (hx : runK s s.size = ⟨(2, f) :: r, fr⟩) :
    Calls Try.prog 8 #[.string s, .string t] w fun e w' => e = .returned (.bool true) ∧ Below w.heap.size w w' := by
  have t1 : decide ((100 : Int) < s.size) = false := decide_eq_false_iff_not.2 (by omega)
  have t2 : decide ((100 : Int) < t.size) = false := decide_eq_false_iff_not.2 (by omega)
  have hin := fun W => in_any 41 t W (by omega)
  rw [hq] at hin
  have hrun := fun W => run_any W s (by omega)
  have hrb := fun W => run_any W (dB ++ t) (by rw [ByteArray.size_append]; show 2 + t.size ≤ _; omega)
  have hrc := fun W => run_any W ((s ++ dB) ++ t) (by rw [ByteArray.size_append, ByteArray.size_append]; show s.size + 2 + t.size ≤ _; omega)
  have hlen := runK_len s s.size
  have hst := inner_states (s := s) (t := t)
  rw [hx] at hlen hst
  simp only [hx] at hrun
  have HST := Lib.hid hst
  have HRB := Lib.hid hrb
  have HRC := Lib.hid hrc
  have HQ := Lib.hid hq
  clear hst hrb hrc hx hq
  simp only [List.length_cons] at hlen
  obtain ⟨z, hz⟩ : ∃ z, z = r.length + 1 := ⟨_, rfl⟩
  obtain ⟨k, hk⟩ : ∃ k, r.length = k := ⟨_, rfl⟩
  have e1 : IntKind.i64.wrap ((z : Int) - 1) = (k : Int) := by rw [IntWalk.i64_in _ (by omega)]; omega
  have q1 : (k : Int) < (z : Int) := by omega
  have q0 : (0 : Int) ≤ (k : Int) := by omega
  have q2 : ((z : Int) == 0) = false := beq_eq_false_iff_ne.2 (by omega)
  have hz8 : z ≤ 102 := by omega
  obtain ⟨v, fr2, hv1, hv2, hbs, hbf, hcs, hcf⟩ := HST.out (by show opensD 2; unfold opensD; decide) HQ.out
  have hup : Upto (2 + t.size) v := by
    have h1 := upto_runK (dB ++ t) (dB ++ t).size
    rw [show (dB ++ t).size = 2 + t.size by rw [ByteArray.size_append]; rfl] at h1
    intro q hq2
    have h2 : q ∈ (runK (dB ++ t) (dB ++ t).size).st.reverse := by rw [hbs]; simp [hq2]
    rw [show (dB ++ t).size = 2 + t.size by rw [ByteArray.size_append]; rfl] at h2
    exact h1 q (by simpa using h2)
  have HUP := Lib.hid hup
  simp only [hbf] at HRB
  simp only [hcf] at HRC
  have hrb := fun W => HRB.out W
  have hrc := fun W => HRC.out W
  simp only [hbs] at hrb
  simp only [hcs] at hrc
  obtain ⟨y, hy⟩ : ∃ y, v.length = y := ⟨_, rfl⟩
  have HV := Lib.hid hy
  have hy1 : 1 ≤ y := by omega
  have hy2 : y ≤ 101 := by omega
  have HZ := Lib.hid hz
  have HK := Lib.hid hk
  clear HRB HRC hbs hbf hcs hcf hv1 hv2 hy hup
  obtain ⟨B, hB⟩ : ∃ B, B = y + 1 := ⟨_, rfl⟩
  obtain ⟨C, hC⟩ : ∃ C, C = z + y := ⟨_, rfl⟩
  obtain ⟨D, hD⟩ : ∃ D, D = C + 1 := ⟨_, rfl⟩
  have n1 : decide ((B : Int) < 2) = false := decide_eq_false_iff_not.2 (by omega)
  have n2 : IntKind.i64.wrap ((z : Int) + (B : Int)) = (D : Int) := by rw [IntWalk.i64_in _ (by omega)]; omega
  have n3 : IntKind.i64.wrap ((D : Int) - 1) = (C : Int) := by rw [IntWalk.i64_in _ (by omega)]; omega
  have n4 : ¬ (B : Int) < 2 := by omega
  have hB8 : B ≤ 102 := by omega
  have HB := Lib.hid hB
  have HC := Lib.hid hC
  clear hB hC hD hk hz
  go_enter Try.func8, Try.ntmps8
  go_wp2_with fail
  refine (awake_any _).mono ?_
  rintro e w1 ⟨rfl, hb1⟩
  go_wp2_with fail
  refine (hin _).mono ?_
  rintro e w2 ⟨rfl, rfl⟩
  go_wp2_with fail
  refine (hrun _).mono ?_
  rintro e w3 ⟨⟨vv, rfl, hRs⟩, hb3⟩
  obtain ⟨ga, capa, rfl, hga, hFa⟩ := rs_st hRs
  have ca := (hFa.cell (j := r.length) (x := (2, f)) (by simp)).1
  simp only at ca
  rw [HK.out] at ca
  rw [show ((2, f) :: r : List Fr).length = z by simp only [List.length_cons]; exact HZ.out.symm]
  go_wp2_with fail
  refine (hrb _).mono ?_
  rintro e w4 ⟨⟨v4, rfl, hRs4⟩, hb4⟩
  obtain ⟨gb, capb, hvb, hgb, hFb⟩ := hRs4
  rw [show ((0, 0) :: v : List Fr).length = B by simp only [List.length_cons, HV.out, HB.out]] at hvb
  subst hvb
  go_wp2_with fail
  refine (hrc _).mono ?_
  rintro e w5 ⟨⟨v5, rfl, hRs5⟩, hb5⟩
  obtain ⟨gc, capc, hvc, hgc, hFc⟩ := hRs5
  rw [show (((2, f) :: r : List Fr).reverse ++ shift s.size v).length = C by simp only [List.length_append, List.length_reverse, List.length_cons, shift_len, HV.out, HC.out, HZ.out]] at hvc
  subst hvc
  have hB5 : Below w.heap.size w w5 := ((hb1.trans (hb3.mono hb1.size)).trans (hb4.mono (Nat.le_trans hb1.size hb3.size))).trans (hb5.mono (Nat.le_trans (Nat.le_trans hb1.size hb3.size) hb4.size))
  have hFa5 := fw_below (fw_below hFa hb4) hb5
  have hFb5 := fw_below hFb hb5
  have hFL : ∃ L : List Fr, L.length = z ∧ Fw w5 ga capa L ∧ Fw w5 gc capc (L ++ shift s.size v) := ⟨_, by simp only [List.length_reverse, List.length_cons]; exact HZ.out.symm, hFa5, hFc⟩
  obtain ⟨L, hL, hLa, hLc⟩ := hFL
  have HL := Lib.hid hL
  clear ca hL
  go_wp2
  go_loopw [11] (fun v wr => ∃ i : Nat, v = .int .i64 i ∧ i ≤ z ∧ Below w5.heap.size w5 wr) (fun v _ => z - (intOf v).toNat)
  case atStart => exact ⟨0, rfl, Nat.zero_le _, Below.refl _ _⟩
  case round =>
    obtain ⟨i, rfl, hi, hBr⟩ := hrel
    by_cases hlt : i < z
    · have hlt2 : (i : Int) < (z : Int) := by omega
      have hlt3 : (i : Int) < (C : Int) := by have := HC.out; omega
      have p0 : (0 : Int) ≤ (i : Int) := by omega
      have hiL : i < L.length := by rw [HL.out]; exact hlt
      obtain ⟨y2, hy2⟩ : ∃ y2, L[i]? = some y2 := ⟨_, List.getElem?_eq_getElem hiL⟩
      have hyc : (L ++ shift s.size v)[i]? = some y2 := by rw [List.getElem?_append_left hiL]; exact hy2
      obtain ⟨a1, a2⟩ := (fw_below hLa hBr).cell hy2
      obtain ⟨c1, c2⟩ := (fw_below hLc hBr).cell hyc
      obtain ⟨ym, yf⟩ := y2
      simp only at a1 a2 c1 c2
      have hneq := neq_frame (ym : Int) (yf : Int)
      clear hy2 hyc hiL
      go_wp2
      go_quiet (fail)
      go_wp2
      go_roundw
      case rel => exact ⟨i + 1, by go_num, by omega, ⟨hBr.os, hBr.tape, hBr.output, hBr.size, hBr.block⟩⟩
      case measure => simp [intOf]; omega
    · obtain rfl : i = z := by omega
      go_wp2
      go_loopw [12] (fun v wr => ∃ j : Nat, v = .int .i64 j ∧ 1 ≤ j ∧ j ≤ B ∧ Below w5.heap.size w5 wr) (fun v _ => B - (intOf v).toNat)
      case atStart => exact ⟨1, rfl, Nat.le_refl _, by have := HB.out; omega, hBr⟩
      case round =>
        obtain ⟨j, rfl, hj1, hj2, hBr2⟩ := hrel
        by_cases hjl : j < B
        · have hjl2 : (j : Int) < (B : Int) := by omega
          obtain ⟨d, rfl⟩ : ∃ d, j = d + 1 := ⟨j - 1, by omega⟩
          have hdv : d < v.length := by have := HB.out; rw [HV.out]; omega
          have hd8 : d ≤ 101 := by omega
          obtain ⟨y3, hy3⟩ : ∃ y3, v[d]? = some y3 := ⟨_, List.getElem?_eq_getElem hdv⟩
          have hub := HUP.out y3 (List.mem_of_getElem? hy3)
          have hyb : ((0, 0) :: v)[d + 1]? = some y3 := by rw [List.getElem?_cons_succ]; exact hy3
          have hyc : (L ++ shift s.size v)[i + d]? = some (y3.1, y3.2 + s.size) := by
            rw [List.getElem?_append_right (by rw [HL.out]; omega), HL.out, show i + d - i = d by omega]
            unfold shift
            rw [List.getElem?_map, hy3]
            rfl
          obtain ⟨b1, b2⟩ := (fw_below hFb5 hBr2).cell hyb
          obtain ⟨c1, c2⟩ := (fw_below hLc hBr2).cell hyc
          obtain ⟨ym, yf⟩ := y3
          simp only at b1 b2 c1 c2 hub
          obtain ⟨J, hJ⟩ : ∃ J, J = d + 1 := ⟨_, rfl⟩
          obtain ⟨E, hE⟩ : ∃ E, E = i + d := ⟨_, rfl⟩
          obtain ⟨E2, hE2⟩ : ∃ E2, E2 = E + 1 := ⟨_, rfl⟩
          obtain ⟨G, hG⟩ : ∃ G, G = yf + s.size := ⟨_, rfl⟩
          rw [← hJ] at b1 b2 hjl2 ⊢
          rw [← hE] at c1 c2
          rw [← hG] at c2
          have r1 : IntKind.i64.wrap ((i : Int) + (J : Int)) = (E2 : Int) := by rw [IntWalk.i64_in _ (by omega)]; omega
          have r2 : IntKind.i64.wrap ((E2 : Int) - 1) = (E : Int) := by rw [IntWalk.i64_in _ (by omega)]; omega
          have r3 : IntKind.i64.wrap ((yf : Int) + (s.size : Int)) = (G : Int) := by rw [IntWalk.i64_in _ (by omega)]; omega
          have r4 : (E : Int) < (C : Int) := by have h1 := HC.out; have h2 := HB.out; omega
          have r5 : (0 : Int) ≤ (E : Int) := by omega
          have r6 : (0 : Int) ≤ (J : Int) := by omega
          have HJ := Lib.hid hJ
          have hJB : J ≤ B := by omega
          have hJ1 : J + 1 ≤ B := by omega
          clear hy3 hyb hyc hdv hub hJ hE hE2 hG hj1 hj2
          go_wp2
          go_quiet (fail)
          go_wp2
          go_roundw
          case rel => exact ⟨J + 1, by go_num, by omega, by omega, ⟨hBr2.os, hBr2.tape, hBr2.output, hBr2.size, hBr2.block⟩⟩
          case measure => simp [intOf]; omega
        · obtain rfl : j = B := by omega
          go_wp2
          go_ret
          exact ⟨rfl, hB5.trans (hBr2.mono hB5.size)⟩
set_option maxRecDepth 100000 in
set_option maxHeartbeats 8000000 in
theorem inner_5 (s t : ByteArray) (w : World) (hs : s.size ≤ 100) (ht : t.size ≤ 100) (hq : inB 41 t = false) (f : Nat) (r : List Fr) (fr : Bool) (hx : runK s s.size = ⟨(5, f) :: r, fr⟩) :
    Calls Try.prog 8 #[.string s, .string t] w fun e w' => e = .returned (.bool true) ∧ Below w.heap.size w w' := by
  have t1 : decide ((100 : Int) < s.size) = false := decide_eq_false_iff_not.2 (by omega)
  have t2 : decide ((100 : Int) < t.size) = false := decide_eq_false_iff_not.2 (by omega)
  have hin := fun W => in_any 41 t W (by omega)
  rw [hq] at hin
  have hrun := fun W => run_any W s (by omega)
  have hrb := fun W => run_any W (dB ++ t) (by rw [ByteArray.size_append]; show 2 + t.size ≤ _; omega)
  have hrc := fun W => run_any W ((s ++ dB) ++ t) (by rw [ByteArray.size_append, ByteArray.size_append]; show s.size + 2 + t.size ≤ _; omega)
  have hlen := runK_len s s.size
  have hst := inner_states (s := s) (t := t)
  rw [hx] at hlen hst
  simp only [hx] at hrun
  have HST := Lib.hid hst
  have HRB := Lib.hid hrb
  have HRC := Lib.hid hrc
  have HQ := Lib.hid hq
  clear hst hrb hrc hx hq
  simp only [List.length_cons] at hlen
  obtain ⟨z, hz⟩ : ∃ z, z = r.length + 1 := ⟨_, rfl⟩
  obtain ⟨k, hk⟩ : ∃ k, r.length = k := ⟨_, rfl⟩
  have e1 : IntKind.i64.wrap ((z : Int) - 1) = (k : Int) := by rw [IntWalk.i64_in _ (by omega)]; omega
  have q1 : (k : Int) < (z : Int) := by omega
  have q0 : (0 : Int) ≤ (k : Int) := by omega
  have q2 : ((z : Int) == 0) = false := beq_eq_false_iff_ne.2 (by omega)
  have hz8 : z ≤ 102 := by omega
  obtain ⟨v, fr2, hv1, hv2, hbs, hbf, hcs, hcf⟩ := HST.out (by show opensD 5; unfold opensD; decide) HQ.out
  have hup : Upto (2 + t.size) v := by
    have h1 := upto_runK (dB ++ t) (dB ++ t).size
    rw [show (dB ++ t).size = 2 + t.size by rw [ByteArray.size_append]; rfl] at h1
    intro q hq2
    have h2 : q ∈ (runK (dB ++ t) (dB ++ t).size).st.reverse := by rw [hbs]; simp [hq2]
    rw [show (dB ++ t).size = 2 + t.size by rw [ByteArray.size_append]; rfl] at h2
    exact h1 q (by simpa using h2)
  have HUP := Lib.hid hup
  simp only [hbf] at HRB
  simp only [hcf] at HRC
  have hrb := fun W => HRB.out W
  have hrc := fun W => HRC.out W
  simp only [hbs] at hrb
  simp only [hcs] at hrc
  obtain ⟨y, hy⟩ : ∃ y, v.length = y := ⟨_, rfl⟩
  have HV := Lib.hid hy
  have hy1 : 1 ≤ y := by omega
  have hy2 : y ≤ 101 := by omega
  have HZ := Lib.hid hz
  have HK := Lib.hid hk
  clear HRB HRC hbs hbf hcs hcf hv1 hv2 hy hup
  obtain ⟨B, hB⟩ : ∃ B, B = y + 1 := ⟨_, rfl⟩
  obtain ⟨C, hC⟩ : ∃ C, C = z + y := ⟨_, rfl⟩
  obtain ⟨D, hD⟩ : ∃ D, D = C + 1 := ⟨_, rfl⟩
  have n1 : decide ((B : Int) < 2) = false := decide_eq_false_iff_not.2 (by omega)
  have n2 : IntKind.i64.wrap ((z : Int) + (B : Int)) = (D : Int) := by rw [IntWalk.i64_in _ (by omega)]; omega
  have n3 : IntKind.i64.wrap ((D : Int) - 1) = (C : Int) := by rw [IntWalk.i64_in _ (by omega)]; omega
  have n4 : ¬ (B : Int) < 2 := by omega
  have hB8 : B ≤ 102 := by omega
  have HB := Lib.hid hB
  have HC := Lib.hid hC
  clear hB hC hD hk hz
  go_enter Try.func8, Try.ntmps8
  go_wp2_with fail
  refine (awake_any _).mono ?_
  rintro e w1 ⟨rfl, hb1⟩
  go_wp2_with fail
  refine (hin _).mono ?_
  rintro e w2 ⟨rfl, rfl⟩
  go_wp2_with fail
  refine (hrun _).mono ?_
  rintro e w3 ⟨⟨vv, rfl, hRs⟩, hb3⟩
  obtain ⟨ga, capa, rfl, hga, hFa⟩ := rs_st hRs
  have ca := (hFa.cell (j := r.length) (x := (5, f)) (by simp)).1
  simp only at ca
  rw [HK.out] at ca
  rw [show ((5, f) :: r : List Fr).length = z by simp only [List.length_cons]; exact HZ.out.symm]
  go_wp2_with fail
  refine (hrb _).mono ?_
  rintro e w4 ⟨⟨v4, rfl, hRs4⟩, hb4⟩
  obtain ⟨gb, capb, hvb, hgb, hFb⟩ := hRs4
  rw [show ((0, 0) :: v : List Fr).length = B by simp only [List.length_cons, HV.out, HB.out]] at hvb
  subst hvb
  go_wp2_with fail
  refine (hrc _).mono ?_
  rintro e w5 ⟨⟨v5, rfl, hRs5⟩, hb5⟩
  obtain ⟨gc, capc, hvc, hgc, hFc⟩ := hRs5
  rw [show (((5, f) :: r : List Fr).reverse ++ shift s.size v).length = C by simp only [List.length_append, List.length_reverse, List.length_cons, shift_len, HV.out, HC.out, HZ.out]] at hvc
  subst hvc
  have hB5 : Below w.heap.size w w5 := ((hb1.trans (hb3.mono hb1.size)).trans (hb4.mono (Nat.le_trans hb1.size hb3.size))).trans (hb5.mono (Nat.le_trans (Nat.le_trans hb1.size hb3.size) hb4.size))
  have hFa5 := fw_below (fw_below hFa hb4) hb5
  have hFb5 := fw_below hFb hb5
  have hFL : ∃ L : List Fr, L.length = z ∧ Fw w5 ga capa L ∧ Fw w5 gc capc (L ++ shift s.size v) := ⟨_, by simp only [List.length_reverse, List.length_cons]; exact HZ.out.symm, hFa5, hFc⟩
  obtain ⟨L, hL, hLa, hLc⟩ := hFL
  have HL := Lib.hid hL
  clear ca hL
  go_wp2
  go_loopw [11] (fun v wr => ∃ i : Nat, v = .int .i64 i ∧ i ≤ z ∧ Below w5.heap.size w5 wr) (fun v _ => z - (intOf v).toNat)
  case atStart => exact ⟨0, rfl, Nat.zero_le _, Below.refl _ _⟩
  case round =>
    obtain ⟨i, rfl, hi, hBr⟩ := hrel
    by_cases hlt : i < z
    · have hlt2 : (i : Int) < (z : Int) := by omega
      have hlt3 : (i : Int) < (C : Int) := by have := HC.out; omega
      have p0 : (0 : Int) ≤ (i : Int) := by omega
      have hiL : i < L.length := by rw [HL.out]; exact hlt
      obtain ⟨y2, hy2⟩ : ∃ y2, L[i]? = some y2 := ⟨_, List.getElem?_eq_getElem hiL⟩
      have hyc : (L ++ shift s.size v)[i]? = some y2 := by rw [List.getElem?_append_left hiL]; exact hy2
      obtain ⟨a1, a2⟩ := (fw_below hLa hBr).cell hy2
      obtain ⟨c1, c2⟩ := (fw_below hLc hBr).cell hyc
      obtain ⟨ym, yf⟩ := y2
      simp only at a1 a2 c1 c2
      have hneq := neq_frame (ym : Int) (yf : Int)
      clear hy2 hyc hiL
      go_wp2
      go_quiet (fail)
      go_wp2
      go_roundw
      case rel => exact ⟨i + 1, by go_num, by omega, ⟨hBr.os, hBr.tape, hBr.output, hBr.size, hBr.block⟩⟩
      case measure => simp [intOf]; omega
    · obtain rfl : i = z := by omega
      go_wp2
      go_loopw [12] (fun v wr => ∃ j : Nat, v = .int .i64 j ∧ 1 ≤ j ∧ j ≤ B ∧ Below w5.heap.size w5 wr) (fun v _ => B - (intOf v).toNat)
      case atStart => exact ⟨1, rfl, Nat.le_refl _, by have := HB.out; omega, hBr⟩
      case round =>
        obtain ⟨j, rfl, hj1, hj2, hBr2⟩ := hrel
        by_cases hjl : j < B
        · have hjl2 : (j : Int) < (B : Int) := by omega
          obtain ⟨d, rfl⟩ : ∃ d, j = d + 1 := ⟨j - 1, by omega⟩
          have hdv : d < v.length := by have := HB.out; rw [HV.out]; omega
          have hd8 : d ≤ 101 := by omega
          obtain ⟨y3, hy3⟩ : ∃ y3, v[d]? = some y3 := ⟨_, List.getElem?_eq_getElem hdv⟩
          have hub := HUP.out y3 (List.mem_of_getElem? hy3)
          have hyb : ((0, 0) :: v)[d + 1]? = some y3 := by rw [List.getElem?_cons_succ]; exact hy3
          have hyc : (L ++ shift s.size v)[i + d]? = some (y3.1, y3.2 + s.size) := by
            rw [List.getElem?_append_right (by rw [HL.out]; omega), HL.out, show i + d - i = d by omega]
            unfold shift
            rw [List.getElem?_map, hy3]
            rfl
          obtain ⟨b1, b2⟩ := (fw_below hFb5 hBr2).cell hyb
          obtain ⟨c1, c2⟩ := (fw_below hLc hBr2).cell hyc
          obtain ⟨ym, yf⟩ := y3
          simp only at b1 b2 c1 c2 hub
          obtain ⟨J, hJ⟩ : ∃ J, J = d + 1 := ⟨_, rfl⟩
          obtain ⟨E, hE⟩ : ∃ E, E = i + d := ⟨_, rfl⟩
          obtain ⟨E2, hE2⟩ : ∃ E2, E2 = E + 1 := ⟨_, rfl⟩
          obtain ⟨G, hG⟩ : ∃ G, G = yf + s.size := ⟨_, rfl⟩
          rw [← hJ] at b1 b2 hjl2 ⊢
          rw [← hE] at c1 c2
          rw [← hG] at c2
          have r1 : IntKind.i64.wrap ((i : Int) + (J : Int)) = (E2 : Int) := by rw [IntWalk.i64_in _ (by omega)]; omega
          have r2 : IntKind.i64.wrap ((E2 : Int) - 1) = (E : Int) := by rw [IntWalk.i64_in _ (by omega)]; omega
          have r3 : IntKind.i64.wrap ((yf : Int) + (s.size : Int)) = (G : Int) := by rw [IntWalk.i64_in _ (by omega)]; omega
          have r4 : (E : Int) < (C : Int) := by have h1 := HC.out; have h2 := HB.out; omega
          have r5 : (0 : Int) ≤ (E : Int) := by omega
          have r6 : (0 : Int) ≤ (J : Int) := by omega
          have HJ := Lib.hid hJ
          have hJB : J ≤ B := by omega
          have hJ1 : J + 1 ≤ B := by omega
          clear hy3 hyb hyc hdv hub hJ hE hE2 hG hj1 hj2
          go_wp2
          go_quiet (fail)
          go_wp2
          go_roundw
          case rel => exact ⟨J + 1, by go_num, by omega, by omega, ⟨hBr2.os, hBr2.tape, hBr2.output, hBr2.size, hBr2.block⟩⟩
          case measure => simp [intOf]; omega
        · obtain rfl : j = B := by omega
          go_wp2
          go_ret
          exact ⟨rfl, hB5.trans (hBr2.mono hB5.size)⟩
set_option maxRecDepth 100000 in
set_option maxHeartbeats 8000000 in
theorem inner_7 (s t : ByteArray) (w : World) (hs : s.size ≤ 100) (ht : t.size ≤ 100) (hq : inB 41 t = false) (f : Nat) (r : List Fr) (fr : Bool) (hx : runK s s.size = ⟨(7, f) :: r, fr⟩) :
    Calls Try.prog 8 #[.string s, .string t] w fun e w' => e = .returned (.bool true) ∧ Below w.heap.size w w' := by
  have t1 : decide ((100 : Int) < s.size) = false := decide_eq_false_iff_not.2 (by omega)
  have t2 : decide ((100 : Int) < t.size) = false := decide_eq_false_iff_not.2 (by omega)
  have hin := fun W => in_any 41 t W (by omega)
  rw [hq] at hin
  have hrun := fun W => run_any W s (by omega)
  have hrb := fun W => run_any W (dB ++ t) (by rw [ByteArray.size_append]; show 2 + t.size ≤ _; omega)
  have hrc := fun W => run_any W ((s ++ dB) ++ t) (by rw [ByteArray.size_append, ByteArray.size_append]; show s.size + 2 + t.size ≤ _; omega)
  have hlen := runK_len s s.size
  have hst := inner_states (s := s) (t := t)
  rw [hx] at hlen hst
  simp only [hx] at hrun
  have HST := Lib.hid hst
  have HRB := Lib.hid hrb
  have HRC := Lib.hid hrc
  have HQ := Lib.hid hq
  clear hst hrb hrc hx hq
  simp only [List.length_cons] at hlen
  obtain ⟨z, hz⟩ : ∃ z, z = r.length + 1 := ⟨_, rfl⟩
  obtain ⟨k, hk⟩ : ∃ k, r.length = k := ⟨_, rfl⟩
  have e1 : IntKind.i64.wrap ((z : Int) - 1) = (k : Int) := by rw [IntWalk.i64_in _ (by omega)]; omega
  have q1 : (k : Int) < (z : Int) := by omega
  have q0 : (0 : Int) ≤ (k : Int) := by omega
  have q2 : ((z : Int) == 0) = false := beq_eq_false_iff_ne.2 (by omega)
  have hz8 : z ≤ 102 := by omega
  obtain ⟨v, fr2, hv1, hv2, hbs, hbf, hcs, hcf⟩ := HST.out (by show opensD 7; unfold opensD; decide) HQ.out
  have hup : Upto (2 + t.size) v := by
    have h1 := upto_runK (dB ++ t) (dB ++ t).size
    rw [show (dB ++ t).size = 2 + t.size by rw [ByteArray.size_append]; rfl] at h1
    intro q hq2
    have h2 : q ∈ (runK (dB ++ t) (dB ++ t).size).st.reverse := by rw [hbs]; simp [hq2]
    rw [show (dB ++ t).size = 2 + t.size by rw [ByteArray.size_append]; rfl] at h2
    exact h1 q (by simpa using h2)
  have HUP := Lib.hid hup
  simp only [hbf] at HRB
  simp only [hcf] at HRC
  have hrb := fun W => HRB.out W
  have hrc := fun W => HRC.out W
  simp only [hbs] at hrb
  simp only [hcs] at hrc
  obtain ⟨y, hy⟩ : ∃ y, v.length = y := ⟨_, rfl⟩
  have HV := Lib.hid hy
  have hy1 : 1 ≤ y := by omega
  have hy2 : y ≤ 101 := by omega
  have HZ := Lib.hid hz
  have HK := Lib.hid hk
  clear HRB HRC hbs hbf hcs hcf hv1 hv2 hy hup
  obtain ⟨B, hB⟩ : ∃ B, B = y + 1 := ⟨_, rfl⟩
  obtain ⟨C, hC⟩ : ∃ C, C = z + y := ⟨_, rfl⟩
  obtain ⟨D, hD⟩ : ∃ D, D = C + 1 := ⟨_, rfl⟩
  have n1 : decide ((B : Int) < 2) = false := decide_eq_false_iff_not.2 (by omega)
  have n2 : IntKind.i64.wrap ((z : Int) + (B : Int)) = (D : Int) := by rw [IntWalk.i64_in _ (by omega)]; omega
  have n3 : IntKind.i64.wrap ((D : Int) - 1) = (C : Int) := by rw [IntWalk.i64_in _ (by omega)]; omega
  have n4 : ¬ (B : Int) < 2 := by omega
  have hB8 : B ≤ 102 := by omega
  have HB := Lib.hid hB
  have HC := Lib.hid hC
  clear hB hC hD hk hz
  go_enter Try.func8, Try.ntmps8
  go_wp2_with fail
  refine (awake_any _).mono ?_
  rintro e w1 ⟨rfl, hb1⟩
  go_wp2_with fail
  refine (hin _).mono ?_
  rintro e w2 ⟨rfl, rfl⟩
  go_wp2_with fail
  refine (hrun _).mono ?_
  rintro e w3 ⟨⟨vv, rfl, hRs⟩, hb3⟩
  obtain ⟨ga, capa, rfl, hga, hFa⟩ := rs_st hRs
  have ca := (hFa.cell (j := r.length) (x := (7, f)) (by simp)).1
  simp only at ca
  rw [HK.out] at ca
  rw [show ((7, f) :: r : List Fr).length = z by simp only [List.length_cons]; exact HZ.out.symm]
  go_wp2_with fail
  refine (hrb _).mono ?_
  rintro e w4 ⟨⟨v4, rfl, hRs4⟩, hb4⟩
  obtain ⟨gb, capb, hvb, hgb, hFb⟩ := hRs4
  rw [show ((0, 0) :: v : List Fr).length = B by simp only [List.length_cons, HV.out, HB.out]] at hvb
  subst hvb
  go_wp2_with fail
  refine (hrc _).mono ?_
  rintro e w5 ⟨⟨v5, rfl, hRs5⟩, hb5⟩
  obtain ⟨gc, capc, hvc, hgc, hFc⟩ := hRs5
  rw [show (((7, f) :: r : List Fr).reverse ++ shift s.size v).length = C by simp only [List.length_append, List.length_reverse, List.length_cons, shift_len, HV.out, HC.out, HZ.out]] at hvc
  subst hvc
  have hB5 : Below w.heap.size w w5 := ((hb1.trans (hb3.mono hb1.size)).trans (hb4.mono (Nat.le_trans hb1.size hb3.size))).trans (hb5.mono (Nat.le_trans (Nat.le_trans hb1.size hb3.size) hb4.size))
  have hFa5 := fw_below (fw_below hFa hb4) hb5
  have hFb5 := fw_below hFb hb5
  have hFL : ∃ L : List Fr, L.length = z ∧ Fw w5 ga capa L ∧ Fw w5 gc capc (L ++ shift s.size v) := ⟨_, by simp only [List.length_reverse, List.length_cons]; exact HZ.out.symm, hFa5, hFc⟩
  obtain ⟨L, hL, hLa, hLc⟩ := hFL
  have HL := Lib.hid hL
  clear ca hL
  go_wp2
  go_loopw [11] (fun v wr => ∃ i : Nat, v = .int .i64 i ∧ i ≤ z ∧ Below w5.heap.size w5 wr) (fun v _ => z - (intOf v).toNat)
  case atStart => exact ⟨0, rfl, Nat.zero_le _, Below.refl _ _⟩
  case round =>
    obtain ⟨i, rfl, hi, hBr⟩ := hrel
    by_cases hlt : i < z
    · have hlt2 : (i : Int) < (z : Int) := by omega
      have hlt3 : (i : Int) < (C : Int) := by have := HC.out; omega
      have p0 : (0 : Int) ≤ (i : Int) := by omega
      have hiL : i < L.length := by rw [HL.out]; exact hlt
      obtain ⟨y2, hy2⟩ : ∃ y2, L[i]? = some y2 := ⟨_, List.getElem?_eq_getElem hiL⟩
      have hyc : (L ++ shift s.size v)[i]? = some y2 := by rw [List.getElem?_append_left hiL]; exact hy2
      obtain ⟨a1, a2⟩ := (fw_below hLa hBr).cell hy2
      obtain ⟨c1, c2⟩ := (fw_below hLc hBr).cell hyc
      obtain ⟨ym, yf⟩ := y2
      simp only at a1 a2 c1 c2
      have hneq := neq_frame (ym : Int) (yf : Int)
      clear hy2 hyc hiL
      go_wp2
      go_quiet (fail)
      go_wp2
      go_roundw
      case rel => exact ⟨i + 1, by go_num, by omega, ⟨hBr.os, hBr.tape, hBr.output, hBr.size, hBr.block⟩⟩
      case measure => simp [intOf]; omega
    · obtain rfl : i = z := by omega
      go_wp2
      go_loopw [12] (fun v wr => ∃ j : Nat, v = .int .i64 j ∧ 1 ≤ j ∧ j ≤ B ∧ Below w5.heap.size w5 wr) (fun v _ => B - (intOf v).toNat)
      case atStart => exact ⟨1, rfl, Nat.le_refl _, by have := HB.out; omega, hBr⟩
      case round =>
        obtain ⟨j, rfl, hj1, hj2, hBr2⟩ := hrel
        by_cases hjl : j < B
        · have hjl2 : (j : Int) < (B : Int) := by omega
          obtain ⟨d, rfl⟩ : ∃ d, j = d + 1 := ⟨j - 1, by omega⟩
          have hdv : d < v.length := by have := HB.out; rw [HV.out]; omega
          have hd8 : d ≤ 101 := by omega
          obtain ⟨y3, hy3⟩ : ∃ y3, v[d]? = some y3 := ⟨_, List.getElem?_eq_getElem hdv⟩
          have hub := HUP.out y3 (List.mem_of_getElem? hy3)
          have hyb : ((0, 0) :: v)[d + 1]? = some y3 := by rw [List.getElem?_cons_succ]; exact hy3
          have hyc : (L ++ shift s.size v)[i + d]? = some (y3.1, y3.2 + s.size) := by
            rw [List.getElem?_append_right (by rw [HL.out]; omega), HL.out, show i + d - i = d by omega]
            unfold shift
            rw [List.getElem?_map, hy3]
            rfl
          obtain ⟨b1, b2⟩ := (fw_below hFb5 hBr2).cell hyb
          obtain ⟨c1, c2⟩ := (fw_below hLc hBr2).cell hyc
          obtain ⟨ym, yf⟩ := y3
          simp only at b1 b2 c1 c2 hub
          obtain ⟨J, hJ⟩ : ∃ J, J = d + 1 := ⟨_, rfl⟩
          obtain ⟨E, hE⟩ : ∃ E, E = i + d := ⟨_, rfl⟩
          obtain ⟨E2, hE2⟩ : ∃ E2, E2 = E + 1 := ⟨_, rfl⟩
          obtain ⟨G, hG⟩ : ∃ G, G = yf + s.size := ⟨_, rfl⟩
          rw [← hJ] at b1 b2 hjl2 ⊢
          rw [← hE] at c1 c2
          rw [← hG] at c2
          have r1 : IntKind.i64.wrap ((i : Int) + (J : Int)) = (E2 : Int) := by rw [IntWalk.i64_in _ (by omega)]; omega
          have r2 : IntKind.i64.wrap ((E2 : Int) - 1) = (E : Int) := by rw [IntWalk.i64_in _ (by omega)]; omega
          have r3 : IntKind.i64.wrap ((yf : Int) + (s.size : Int)) = (G : Int) := by rw [IntWalk.i64_in _ (by omega)]; omega
          have r4 : (E : Int) < (C : Int) := by have h1 := HC.out; have h2 := HB.out; omega
          have r5 : (0 : Int) ≤ (E : Int) := by omega
          have r6 : (0 : Int) ≤ (J : Int) := by omega
          have HJ := Lib.hid hJ
          have hJB : J ≤ B := by omega
          have hJ1 : J + 1 ≤ B := by omega
          clear hy3 hyb hyc hdv hub hJ hE hE2 hG hj1 hj2
          go_wp2
          go_quiet (fail)
          go_wp2
          go_roundw
          case rel => exact ⟨J + 1, by go_num, by omega, by omega, ⟨hBr2.os, hBr2.tape, hBr2.output, hBr2.size, hBr2.block⟩⟩
          case measure => simp [intOf]; omega
        · obtain rfl : j = B := by omega
          go_wp2
          go_ret
          exact ⟨rfl, hB5.trans (hBr2.mono hB5.size)⟩
set_option maxRecDepth 100000 in
set_option maxHeartbeats 8000000 in
theorem inner_8 (s t : ByteArray) (w : World) (hs : s.size ≤ 100) (ht : t.size ≤ 100) (hq : inB 41 t = false) (f : Nat) (r : List Fr) (fr : Bool) (hx : runK s s.size = ⟨(8, f) :: r, fr⟩) :
    Calls Try.prog 8 #[.string s, .string t] w fun e w' => e = .returned (.bool true) ∧ Below w.heap.size w w' := by
  have t1 : decide ((100 : Int) < s.size) = false := decide_eq_false_iff_not.2 (by omega)
  have t2 : decide ((100 : Int) < t.size) = false := decide_eq_false_iff_not.2 (by omega)
  have hin := fun W => in_any 41 t W (by omega)
  rw [hq] at hin
  have hrun := fun W => run_any W s (by omega)
  have hrb := fun W => run_any W (dB ++ t) (by rw [ByteArray.size_append]; show 2 + t.size ≤ _; omega)
  have hrc := fun W => run_any W ((s ++ dB) ++ t) (by rw [ByteArray.size_append, ByteArray.size_append]; show s.size + 2 + t.size ≤ _; omega)
  have hlen := runK_len s s.size
  have hst := inner_states (s := s) (t := t)
  rw [hx] at hlen hst
  simp only [hx] at hrun
  have HST := Lib.hid hst
  have HRB := Lib.hid hrb
  have HRC := Lib.hid hrc
  have HQ := Lib.hid hq
  clear hst hrb hrc hx hq
  simp only [List.length_cons] at hlen
  obtain ⟨z, hz⟩ : ∃ z, z = r.length + 1 := ⟨_, rfl⟩
  obtain ⟨k, hk⟩ : ∃ k, r.length = k := ⟨_, rfl⟩
  have e1 : IntKind.i64.wrap ((z : Int) - 1) = (k : Int) := by rw [IntWalk.i64_in _ (by omega)]; omega
  have q1 : (k : Int) < (z : Int) := by omega
  have q0 : (0 : Int) ≤ (k : Int) := by omega
  have q2 : ((z : Int) == 0) = false := beq_eq_false_iff_ne.2 (by omega)
  have hz8 : z ≤ 102 := by omega
  obtain ⟨v, fr2, hv1, hv2, hbs, hbf, hcs, hcf⟩ := HST.out (by show opensD 8; unfold opensD; decide) HQ.out
  have hup : Upto (2 + t.size) v := by
    have h1 := upto_runK (dB ++ t) (dB ++ t).size
    rw [show (dB ++ t).size = 2 + t.size by rw [ByteArray.size_append]; rfl] at h1
    intro q hq2
    have h2 : q ∈ (runK (dB ++ t) (dB ++ t).size).st.reverse := by rw [hbs]; simp [hq2]
    rw [show (dB ++ t).size = 2 + t.size by rw [ByteArray.size_append]; rfl] at h2
    exact h1 q (by simpa using h2)
  have HUP := Lib.hid hup
  simp only [hbf] at HRB
  simp only [hcf] at HRC
  have hrb := fun W => HRB.out W
  have hrc := fun W => HRC.out W
  simp only [hbs] at hrb
  simp only [hcs] at hrc
  obtain ⟨y, hy⟩ : ∃ y, v.length = y := ⟨_, rfl⟩
  have HV := Lib.hid hy
  have hy1 : 1 ≤ y := by omega
  have hy2 : y ≤ 101 := by omega
  have HZ := Lib.hid hz
  have HK := Lib.hid hk
  clear HRB HRC hbs hbf hcs hcf hv1 hv2 hy hup
  obtain ⟨B, hB⟩ : ∃ B, B = y + 1 := ⟨_, rfl⟩
  obtain ⟨C, hC⟩ : ∃ C, C = z + y := ⟨_, rfl⟩
  obtain ⟨D, hD⟩ : ∃ D, D = C + 1 := ⟨_, rfl⟩
  have n1 : decide ((B : Int) < 2) = false := decide_eq_false_iff_not.2 (by omega)
  have n2 : IntKind.i64.wrap ((z : Int) + (B : Int)) = (D : Int) := by rw [IntWalk.i64_in _ (by omega)]; omega
  have n3 : IntKind.i64.wrap ((D : Int) - 1) = (C : Int) := by rw [IntWalk.i64_in _ (by omega)]; omega
  have n4 : ¬ (B : Int) < 2 := by omega
  have hB8 : B ≤ 102 := by omega
  have HB := Lib.hid hB
  have HC := Lib.hid hC
  clear hB hC hD hk hz
  go_enter Try.func8, Try.ntmps8
  go_wp2_with fail
  refine (awake_any _).mono ?_
  rintro e w1 ⟨rfl, hb1⟩
  go_wp2_with fail
  refine (hin _).mono ?_
  rintro e w2 ⟨rfl, rfl⟩
  go_wp2_with fail
  refine (hrun _).mono ?_
  rintro e w3 ⟨⟨vv, rfl, hRs⟩, hb3⟩
  obtain ⟨ga, capa, rfl, hga, hFa⟩ := rs_st hRs
  have ca := (hFa.cell (j := r.length) (x := (8, f)) (by simp)).1
  simp only at ca
  rw [HK.out] at ca
  rw [show ((8, f) :: r : List Fr).length = z by simp only [List.length_cons]; exact HZ.out.symm]
  go_wp2_with fail
  refine (hrb _).mono ?_
  rintro e w4 ⟨⟨v4, rfl, hRs4⟩, hb4⟩
  obtain ⟨gb, capb, hvb, hgb, hFb⟩ := hRs4
  rw [show ((0, 0) :: v : List Fr).length = B by simp only [List.length_cons, HV.out, HB.out]] at hvb
  subst hvb
  go_wp2_with fail
  refine (hrc _).mono ?_
  rintro e w5 ⟨⟨v5, rfl, hRs5⟩, hb5⟩
  obtain ⟨gc, capc, hvc, hgc, hFc⟩ := hRs5
  rw [show (((8, f) :: r : List Fr).reverse ++ shift s.size v).length = C by simp only [List.length_append, List.length_reverse, List.length_cons, shift_len, HV.out, HC.out, HZ.out]] at hvc
  subst hvc
  have hB5 : Below w.heap.size w w5 := ((hb1.trans (hb3.mono hb1.size)).trans (hb4.mono (Nat.le_trans hb1.size hb3.size))).trans (hb5.mono (Nat.le_trans (Nat.le_trans hb1.size hb3.size) hb4.size))
  have hFa5 := fw_below (fw_below hFa hb4) hb5
  have hFb5 := fw_below hFb hb5
  have hFL : ∃ L : List Fr, L.length = z ∧ Fw w5 ga capa L ∧ Fw w5 gc capc (L ++ shift s.size v) := ⟨_, by simp only [List.length_reverse, List.length_cons]; exact HZ.out.symm, hFa5, hFc⟩
  obtain ⟨L, hL, hLa, hLc⟩ := hFL
  have HL := Lib.hid hL
  clear ca hL
  go_wp2
  go_loopw [11] (fun v wr => ∃ i : Nat, v = .int .i64 i ∧ i ≤ z ∧ Below w5.heap.size w5 wr) (fun v _ => z - (intOf v).toNat)
  case atStart => exact ⟨0, rfl, Nat.zero_le _, Below.refl _ _⟩
  case round =>
    obtain ⟨i, rfl, hi, hBr⟩ := hrel
    by_cases hlt : i < z
    · have hlt2 : (i : Int) < (z : Int) := by omega
      have hlt3 : (i : Int) < (C : Int) := by have := HC.out; omega
      have p0 : (0 : Int) ≤ (i : Int) := by omega
      have hiL : i < L.length := by rw [HL.out]; exact hlt
      obtain ⟨y2, hy2⟩ : ∃ y2, L[i]? = some y2 := ⟨_, List.getElem?_eq_getElem hiL⟩
      have hyc : (L ++ shift s.size v)[i]? = some y2 := by rw [List.getElem?_append_left hiL]; exact hy2
      obtain ⟨a1, a2⟩ := (fw_below hLa hBr).cell hy2
      obtain ⟨c1, c2⟩ := (fw_below hLc hBr).cell hyc
      obtain ⟨ym, yf⟩ := y2
      simp only at a1 a2 c1 c2
      have hneq := neq_frame (ym : Int) (yf : Int)
      clear hy2 hyc hiL
      go_wp2
      go_quiet (fail)
      go_wp2
      go_roundw
      case rel => exact ⟨i + 1, by go_num, by omega, ⟨hBr.os, hBr.tape, hBr.output, hBr.size, hBr.block⟩⟩
      case measure => simp [intOf]; omega
    · obtain rfl : i = z := by omega
      go_wp2
      go_loopw [12] (fun v wr => ∃ j : Nat, v = .int .i64 j ∧ 1 ≤ j ∧ j ≤ B ∧ Below w5.heap.size w5 wr) (fun v _ => B - (intOf v).toNat)
      case atStart => exact ⟨1, rfl, Nat.le_refl _, by have := HB.out; omega, hBr⟩
      case round =>
        obtain ⟨j, rfl, hj1, hj2, hBr2⟩ := hrel
        by_cases hjl : j < B
        · have hjl2 : (j : Int) < (B : Int) := by omega
          obtain ⟨d, rfl⟩ : ∃ d, j = d + 1 := ⟨j - 1, by omega⟩
          have hdv : d < v.length := by have := HB.out; rw [HV.out]; omega
          have hd8 : d ≤ 101 := by omega
          obtain ⟨y3, hy3⟩ : ∃ y3, v[d]? = some y3 := ⟨_, List.getElem?_eq_getElem hdv⟩
          have hub := HUP.out y3 (List.mem_of_getElem? hy3)
          have hyb : ((0, 0) :: v)[d + 1]? = some y3 := by rw [List.getElem?_cons_succ]; exact hy3
          have hyc : (L ++ shift s.size v)[i + d]? = some (y3.1, y3.2 + s.size) := by
            rw [List.getElem?_append_right (by rw [HL.out]; omega), HL.out, show i + d - i = d by omega]
            unfold shift
            rw [List.getElem?_map, hy3]
            rfl
          obtain ⟨b1, b2⟩ := (fw_below hFb5 hBr2).cell hyb
          obtain ⟨c1, c2⟩ := (fw_below hLc hBr2).cell hyc
          obtain ⟨ym, yf⟩ := y3
          simp only at b1 b2 c1 c2 hub
          obtain ⟨J, hJ⟩ : ∃ J, J = d + 1 := ⟨_, rfl⟩
          obtain ⟨E, hE⟩ : ∃ E, E = i + d := ⟨_, rfl⟩
          obtain ⟨E2, hE2⟩ : ∃ E2, E2 = E + 1 := ⟨_, rfl⟩
          obtain ⟨G, hG⟩ : ∃ G, G = yf + s.size := ⟨_, rfl⟩
          rw [← hJ] at b1 b2 hjl2 ⊢
          rw [← hE] at c1 c2
          rw [← hG] at c2
          have r1 : IntKind.i64.wrap ((i : Int) + (J : Int)) = (E2 : Int) := by rw [IntWalk.i64_in _ (by omega)]; omega
          have r2 : IntKind.i64.wrap ((E2 : Int) - 1) = (E : Int) := by rw [IntWalk.i64_in _ (by omega)]; omega
          have r3 : IntKind.i64.wrap ((yf : Int) + (s.size : Int)) = (G : Int) := by rw [IntWalk.i64_in _ (by omega)]; omega
          have r4 : (E : Int) < (C : Int) := by have h1 := HC.out; have h2 := HB.out; omega
          have r5 : (0 : Int) ≤ (E : Int) := by omega
          have r6 : (0 : Int) ≤ (J : Int) := by omega
          have HJ := Lib.hid hJ
          have hJB : J ≤ B := by omega
          have hJ1 : J + 1 ≤ B := by omega
          clear hy3 hyb hyc hdv hub hJ hE hE2 hG hj1 hj2
          go_wp2
          go_quiet (fail)
          go_wp2
          go_roundw
          case rel => exact ⟨J + 1, by go_num, by omega, by omega, ⟨hBr2.os, hBr2.tape, hBr2.output, hBr2.size, hBr2.block⟩⟩
          case measure => simp [intOf]; omega
        · obtain rfl : j = B := by omega
          go_wp2
          go_ret
          exact ⟨rfl, hB5.trans (hBr2.mono hB5.size)⟩
set_option maxRecDepth 100000 in
set_option maxHeartbeats 8000000 in
theorem inner_9 (s t : ByteArray) (w : World) (hs : s.size ≤ 100) (ht : t.size ≤ 100) (hq : inB 41 t = false) (f : Nat) (r : List Fr) (fr : Bool) (hx : runK s s.size = ⟨(9, f) :: r, fr⟩) :
    Calls Try.prog 8 #[.string s, .string t] w fun e w' => e = .returned (.bool true) ∧ Below w.heap.size w w' := by
  have t1 : decide ((100 : Int) < s.size) = false := decide_eq_false_iff_not.2 (by omega)
  have t2 : decide ((100 : Int) < t.size) = false := decide_eq_false_iff_not.2 (by omega)
  have hin := fun W => in_any 41 t W (by omega)
  rw [hq] at hin
  have hrun := fun W => run_any W s (by omega)
  have hrb := fun W => run_any W (dB ++ t) (by rw [ByteArray.size_append]; show 2 + t.size ≤ _; omega)
  have hrc := fun W => run_any W ((s ++ dB) ++ t) (by rw [ByteArray.size_append, ByteArray.size_append]; show s.size + 2 + t.size ≤ _; omega)
  have hlen := runK_len s s.size
  have hst := inner_states (s := s) (t := t)
  rw [hx] at hlen hst
  simp only [hx] at hrun
  have HST := Lib.hid hst
  have HRB := Lib.hid hrb
  have HRC := Lib.hid hrc
  have HQ := Lib.hid hq
  clear hst hrb hrc hx hq
  simp only [List.length_cons] at hlen
  obtain ⟨z, hz⟩ : ∃ z, z = r.length + 1 := ⟨_, rfl⟩
  obtain ⟨k, hk⟩ : ∃ k, r.length = k := ⟨_, rfl⟩
  have e1 : IntKind.i64.wrap ((z : Int) - 1) = (k : Int) := by rw [IntWalk.i64_in _ (by omega)]; omega
  have q1 : (k : Int) < (z : Int) := by omega
  have q0 : (0 : Int) ≤ (k : Int) := by omega
  have q2 : ((z : Int) == 0) = false := beq_eq_false_iff_ne.2 (by omega)
  have hz8 : z ≤ 102 := by omega
  obtain ⟨v, fr2, hv1, hv2, hbs, hbf, hcs, hcf⟩ := HST.out (by show opensD 9; unfold opensD; decide) HQ.out
  have hup : Upto (2 + t.size) v := by
    have h1 := upto_runK (dB ++ t) (dB ++ t).size
    rw [show (dB ++ t).size = 2 + t.size by rw [ByteArray.size_append]; rfl] at h1
    intro q hq2
    have h2 : q ∈ (runK (dB ++ t) (dB ++ t).size).st.reverse := by rw [hbs]; simp [hq2]
    rw [show (dB ++ t).size = 2 + t.size by rw [ByteArray.size_append]; rfl] at h2
    exact h1 q (by simpa using h2)
  have HUP := Lib.hid hup
  simp only [hbf] at HRB
  simp only [hcf] at HRC
  have hrb := fun W => HRB.out W
  have hrc := fun W => HRC.out W
  simp only [hbs] at hrb
  simp only [hcs] at hrc
  obtain ⟨y, hy⟩ : ∃ y, v.length = y := ⟨_, rfl⟩
  have HV := Lib.hid hy
  have hy1 : 1 ≤ y := by omega
  have hy2 : y ≤ 101 := by omega
  have HZ := Lib.hid hz
  have HK := Lib.hid hk
  clear HRB HRC hbs hbf hcs hcf hv1 hv2 hy hup
  obtain ⟨B, hB⟩ : ∃ B, B = y + 1 := ⟨_, rfl⟩
  obtain ⟨C, hC⟩ : ∃ C, C = z + y := ⟨_, rfl⟩
  obtain ⟨D, hD⟩ : ∃ D, D = C + 1 := ⟨_, rfl⟩
  have n1 : decide ((B : Int) < 2) = false := decide_eq_false_iff_not.2 (by omega)
  have n2 : IntKind.i64.wrap ((z : Int) + (B : Int)) = (D : Int) := by rw [IntWalk.i64_in _ (by omega)]; omega
  have n3 : IntKind.i64.wrap ((D : Int) - 1) = (C : Int) := by rw [IntWalk.i64_in _ (by omega)]; omega
  have n4 : ¬ (B : Int) < 2 := by omega
  have hB8 : B ≤ 102 := by omega
  have HB := Lib.hid hB
  have HC := Lib.hid hC
  clear hB hC hD hk hz
  go_enter Try.func8, Try.ntmps8
  go_wp2_with fail
  refine (awake_any _).mono ?_
  rintro e w1 ⟨rfl, hb1⟩
  go_wp2_with fail
  refine (hin _).mono ?_
  rintro e w2 ⟨rfl, rfl⟩
  go_wp2_with fail
  refine (hrun _).mono ?_
  rintro e w3 ⟨⟨vv, rfl, hRs⟩, hb3⟩
  obtain ⟨ga, capa, rfl, hga, hFa⟩ := rs_st hRs
  have ca := (hFa.cell (j := r.length) (x := (9, f)) (by simp)).1
  simp only at ca
  rw [HK.out] at ca
  rw [show ((9, f) :: r : List Fr).length = z by simp only [List.length_cons]; exact HZ.out.symm]
  go_wp2_with fail
  refine (hrb _).mono ?_
  rintro e w4 ⟨⟨v4, rfl, hRs4⟩, hb4⟩
  obtain ⟨gb, capb, hvb, hgb, hFb⟩ := hRs4
  rw [show ((0, 0) :: v : List Fr).length = B by simp only [List.length_cons, HV.out, HB.out]] at hvb
  subst hvb
  go_wp2_with fail
  refine (hrc _).mono ?_
  rintro e w5 ⟨⟨v5, rfl, hRs5⟩, hb5⟩
  obtain ⟨gc, capc, hvc, hgc, hFc⟩ := hRs5
  rw [show (((9, f) :: r : List Fr).reverse ++ shift s.size v).length = C by simp only [List.length_append, List.length_reverse, List.length_cons, shift_len, HV.out, HC.out, HZ.out]] at hvc
  subst hvc
  have hB5 : Below w.heap.size w w5 := ((hb1.trans (hb3.mono hb1.size)).trans (hb4.mono (Nat.le_trans hb1.size hb3.size))).trans (hb5.mono (Nat.le_trans (Nat.le_trans hb1.size hb3.size) hb4.size))
  have hFa5 := fw_below (fw_below hFa hb4) hb5
  have hFb5 := fw_below hFb hb5
  have hFL : ∃ L : List Fr, L.length = z ∧ Fw w5 ga capa L ∧ Fw w5 gc capc (L ++ shift s.size v) := ⟨_, by simp only [List.length_reverse, List.length_cons]; exact HZ.out.symm, hFa5, hFc⟩
  obtain ⟨L, hL, hLa, hLc⟩ := hFL
  have HL := Lib.hid hL
  clear ca hL
  go_wp2
  go_loopw [11] (fun v wr => ∃ i : Nat, v = .int .i64 i ∧ i ≤ z ∧ Below w5.heap.size w5 wr) (fun v _ => z - (intOf v).toNat)
  case atStart => exact ⟨0, rfl, Nat.zero_le _, Below.refl _ _⟩
  case round =>
    obtain ⟨i, rfl, hi, hBr⟩ := hrel
    by_cases hlt : i < z
    · have hlt2 : (i : Int) < (z : Int) := by omega
      have hlt3 : (i : Int) < (C : Int) := by have := HC.out; omega
      have p0 : (0 : Int) ≤ (i : Int) := by omega
      have hiL : i < L.length := by rw [HL.out]; exact hlt
      obtain ⟨y2, hy2⟩ : ∃ y2, L[i]? = some y2 := ⟨_, List.getElem?_eq_getElem hiL⟩
      have hyc : (L ++ shift s.size v)[i]? = some y2 := by rw [List.getElem?_append_left hiL]; exact hy2
      obtain ⟨a1, a2⟩ := (fw_below hLa hBr).cell hy2
      obtain ⟨c1, c2⟩ := (fw_below hLc hBr).cell hyc
      obtain ⟨ym, yf⟩ := y2
      simp only at a1 a2 c1 c2
      have hneq := neq_frame (ym : Int) (yf : Int)
      clear hy2 hyc hiL
      go_wp2
      go_quiet (fail)
      go_wp2
      go_roundw
      case rel => exact ⟨i + 1, by go_num, by omega, ⟨hBr.os, hBr.tape, hBr.output, hBr.size, hBr.block⟩⟩
      case measure => simp [intOf]; omega
    · obtain rfl : i = z := by omega
      go_wp2
      go_loopw [12] (fun v wr => ∃ j : Nat, v = .int .i64 j ∧ 1 ≤ j ∧ j ≤ B ∧ Below w5.heap.size w5 wr) (fun v _ => B - (intOf v).toNat)
      case atStart => exact ⟨1, rfl, Nat.le_refl _, by have := HB.out; omega, hBr⟩
      case round =>
        obtain ⟨j, rfl, hj1, hj2, hBr2⟩ := hrel
        by_cases hjl : j < B
        · have hjl2 : (j : Int) < (B : Int) := by omega
          obtain ⟨d, rfl⟩ : ∃ d, j = d + 1 := ⟨j - 1, by omega⟩
          have hdv : d < v.length := by have := HB.out; rw [HV.out]; omega
          have hd8 : d ≤ 101 := by omega
          obtain ⟨y3, hy3⟩ : ∃ y3, v[d]? = some y3 := ⟨_, List.getElem?_eq_getElem hdv⟩
          have hub := HUP.out y3 (List.mem_of_getElem? hy3)
          have hyb : ((0, 0) :: v)[d + 1]? = some y3 := by rw [List.getElem?_cons_succ]; exact hy3
          have hyc : (L ++ shift s.size v)[i + d]? = some (y3.1, y3.2 + s.size) := by
            rw [List.getElem?_append_right (by rw [HL.out]; omega), HL.out, show i + d - i = d by omega]
            unfold shift
            rw [List.getElem?_map, hy3]
            rfl
          obtain ⟨b1, b2⟩ := (fw_below hFb5 hBr2).cell hyb
          obtain ⟨c1, c2⟩ := (fw_below hLc hBr2).cell hyc
          obtain ⟨ym, yf⟩ := y3
          simp only at b1 b2 c1 c2 hub
          obtain ⟨J, hJ⟩ : ∃ J, J = d + 1 := ⟨_, rfl⟩
          obtain ⟨E, hE⟩ : ∃ E, E = i + d := ⟨_, rfl⟩
          obtain ⟨E2, hE2⟩ : ∃ E2, E2 = E + 1 := ⟨_, rfl⟩
          obtain ⟨G, hG⟩ : ∃ G, G = yf + s.size := ⟨_, rfl⟩
          rw [← hJ] at b1 b2 hjl2 ⊢
          rw [← hE] at c1 c2
          rw [← hG] at c2
          have r1 : IntKind.i64.wrap ((i : Int) + (J : Int)) = (E2 : Int) := by rw [IntWalk.i64_in _ (by omega)]; omega
          have r2 : IntKind.i64.wrap ((E2 : Int) - 1) = (E : Int) := by rw [IntWalk.i64_in _ (by omega)]; omega
          have r3 : IntKind.i64.wrap ((yf : Int) + (s.size : Int)) = (G : Int) := by rw [IntWalk.i64_in _ (by omega)]; omega
          have r4 : (E : Int) < (C : Int) := by have h1 := HC.out; have h2 := HB.out; omega
          have r5 : (0 : Int) ≤ (E : Int) := by omega
          have r6 : (0 : Int) ≤ (J : Int) := by omega
          have HJ := Lib.hid hJ
          have hJB : J ≤ B := by omega
          have hJ1 : J + 1 ≤ B := by omega
          clear hy3 hyb hyc hdv hub hJ hE hE2 hG hj1 hj2
          go_wp2
          go_quiet (fail)
          go_wp2
          go_roundw
          case rel => exact ⟨J + 1, by go_num, by omega, by omega, ⟨hBr2.os, hBr2.tape, hBr2.output, hBr2.size, hBr2.block⟩⟩
          case measure => simp [intOf]; omega
        · obtain rfl : j = B := by omega
          go_wp2
          go_ret
          exact ⟨rfl, hB5.trans (hBr2.mono hB5.size)⟩
set_option maxRecDepth 100000 in
set_option maxHeartbeats 8000000 in
theorem inner_10 (s t : ByteArray) (w : World) (hs : s.size ≤ 100) (ht : t.size ≤ 100) (hq : inB 41 t = false) (f : Nat) (r : List Fr) (fr : Bool) (hx : runK s s.size = ⟨(10, f) :: r, fr⟩) :
    Calls Try.prog 8 #[.string s, .string t] w fun e w' => e = .returned (.bool true) ∧ Below w.heap.size w w' := by
  have t1 : decide ((100 : Int) < s.size) = false := decide_eq_false_iff_not.2 (by omega)
  have t2 : decide ((100 : Int) < t.size) = false := decide_eq_false_iff_not.2 (by omega)
  have hin := fun W => in_any 41 t W (by omega)
  rw [hq] at hin
  have hrun := fun W => run_any W s (by omega)
  have hrb := fun W => run_any W (dB ++ t) (by rw [ByteArray.size_append]; show 2 + t.size ≤ _; omega)
  have hrc := fun W => run_any W ((s ++ dB) ++ t) (by rw [ByteArray.size_append, ByteArray.size_append]; show s.size + 2 + t.size ≤ _; omega)
  have hlen := runK_len s s.size
  have hst := inner_states (s := s) (t := t)
  rw [hx] at hlen hst
  simp only [hx] at hrun
  have HST := Lib.hid hst
  have HRB := Lib.hid hrb
  have HRC := Lib.hid hrc
  have HQ := Lib.hid hq
  clear hst hrb hrc hx hq
  simp only [List.length_cons] at hlen
  obtain ⟨z, hz⟩ : ∃ z, z = r.length + 1 := ⟨_, rfl⟩
  obtain ⟨k, hk⟩ : ∃ k, r.length = k := ⟨_, rfl⟩
  have e1 : IntKind.i64.wrap ((z : Int) - 1) = (k : Int) := by rw [IntWalk.i64_in _ (by omega)]; omega
  have q1 : (k : Int) < (z : Int) := by omega
  have q0 : (0 : Int) ≤ (k : Int) := by omega
  have q2 : ((z : Int) == 0) = false := beq_eq_false_iff_ne.2 (by omega)
  have hz8 : z ≤ 102 := by omega
  obtain ⟨v, fr2, hv1, hv2, hbs, hbf, hcs, hcf⟩ := HST.out (by show opensD 10; unfold opensD; decide) HQ.out
  have hup : Upto (2 + t.size) v := by
    have h1 := upto_runK (dB ++ t) (dB ++ t).size
    rw [show (dB ++ t).size = 2 + t.size by rw [ByteArray.size_append]; rfl] at h1
    intro q hq2
    have h2 : q ∈ (runK (dB ++ t) (dB ++ t).size).st.reverse := by rw [hbs]; simp [hq2]
    rw [show (dB ++ t).size = 2 + t.size by rw [ByteArray.size_append]; rfl] at h2
    exact h1 q (by simpa using h2)
  have HUP := Lib.hid hup
  simp only [hbf] at HRB
  simp only [hcf] at HRC
  have hrb := fun W => HRB.out W
  have hrc := fun W => HRC.out W
  simp only [hbs] at hrb
  simp only [hcs] at hrc
  obtain ⟨y, hy⟩ : ∃ y, v.length = y := ⟨_, rfl⟩
  have HV := Lib.hid hy
  have hy1 : 1 ≤ y := by omega
  have hy2 : y ≤ 101 := by omega
  have HZ := Lib.hid hz
  have HK := Lib.hid hk
  clear HRB HRC hbs hbf hcs hcf hv1 hv2 hy hup
  obtain ⟨B, hB⟩ : ∃ B, B = y + 1 := ⟨_, rfl⟩
  obtain ⟨C, hC⟩ : ∃ C, C = z + y := ⟨_, rfl⟩
  obtain ⟨D, hD⟩ : ∃ D, D = C + 1 := ⟨_, rfl⟩
  have n1 : decide ((B : Int) < 2) = false := decide_eq_false_iff_not.2 (by omega)
  have n2 : IntKind.i64.wrap ((z : Int) + (B : Int)) = (D : Int) := by rw [IntWalk.i64_in _ (by omega)]; omega
  have n3 : IntKind.i64.wrap ((D : Int) - 1) = (C : Int) := by rw [IntWalk.i64_in _ (by omega)]; omega
  have n4 : ¬ (B : Int) < 2 := by omega
  have hB8 : B ≤ 102 := by omega
  have HB := Lib.hid hB
  have HC := Lib.hid hC
  clear hB hC hD hk hz
  go_enter Try.func8, Try.ntmps8
  go_wp2_with fail
  refine (awake_any _).mono ?_
  rintro e w1 ⟨rfl, hb1⟩
  go_wp2_with fail
  refine (hin _).mono ?_
  rintro e w2 ⟨rfl, rfl⟩
  go_wp2_with fail
  refine (hrun _).mono ?_
  rintro e w3 ⟨⟨vv, rfl, hRs⟩, hb3⟩
  obtain ⟨ga, capa, rfl, hga, hFa⟩ := rs_st hRs
  have ca := (hFa.cell (j := r.length) (x := (10, f)) (by simp)).1
  simp only at ca
  rw [HK.out] at ca
  rw [show ((10, f) :: r : List Fr).length = z by simp only [List.length_cons]; exact HZ.out.symm]
  go_wp2_with fail
  refine (hrb _).mono ?_
  rintro e w4 ⟨⟨v4, rfl, hRs4⟩, hb4⟩
  obtain ⟨gb, capb, hvb, hgb, hFb⟩ := hRs4
  rw [show ((0, 0) :: v : List Fr).length = B by simp only [List.length_cons, HV.out, HB.out]] at hvb
  subst hvb
  go_wp2_with fail
  refine (hrc _).mono ?_
  rintro e w5 ⟨⟨v5, rfl, hRs5⟩, hb5⟩
  obtain ⟨gc, capc, hvc, hgc, hFc⟩ := hRs5
  rw [show (((10, f) :: r : List Fr).reverse ++ shift s.size v).length = C by simp only [List.length_append, List.length_reverse, List.length_cons, shift_len, HV.out, HC.out, HZ.out]] at hvc
  subst hvc
  have hB5 : Below w.heap.size w w5 := ((hb1.trans (hb3.mono hb1.size)).trans (hb4.mono (Nat.le_trans hb1.size hb3.size))).trans (hb5.mono (Nat.le_trans (Nat.le_trans hb1.size hb3.size) hb4.size))
  have hFa5 := fw_below (fw_below hFa hb4) hb5
  have hFb5 := fw_below hFb hb5
  have hFL : ∃ L : List Fr, L.length = z ∧ Fw w5 ga capa L ∧ Fw w5 gc capc (L ++ shift s.size v) := ⟨_, by simp only [List.length_reverse, List.length_cons]; exact HZ.out.symm, hFa5, hFc⟩
  obtain ⟨L, hL, hLa, hLc⟩ := hFL
  have HL := Lib.hid hL
  clear ca hL
  go_wp2
  go_loopw [11] (fun v wr => ∃ i : Nat, v = .int .i64 i ∧ i ≤ z ∧ Below w5.heap.size w5 wr) (fun v _ => z - (intOf v).toNat)
  case atStart => exact ⟨0, rfl, Nat.zero_le _, Below.refl _ _⟩
  case round =>
    obtain ⟨i, rfl, hi, hBr⟩ := hrel
    by_cases hlt : i < z
    · have hlt2 : (i : Int) < (z : Int) := by omega
      have hlt3 : (i : Int) < (C : Int) := by have := HC.out; omega
      have p0 : (0 : Int) ≤ (i : Int) := by omega
      have hiL : i < L.length := by rw [HL.out]; exact hlt
      obtain ⟨y2, hy2⟩ : ∃ y2, L[i]? = some y2 := ⟨_, List.getElem?_eq_getElem hiL⟩
      have hyc : (L ++ shift s.size v)[i]? = some y2 := by rw [List.getElem?_append_left hiL]; exact hy2
      obtain ⟨a1, a2⟩ := (fw_below hLa hBr).cell hy2
      obtain ⟨c1, c2⟩ := (fw_below hLc hBr).cell hyc
      obtain ⟨ym, yf⟩ := y2
      simp only at a1 a2 c1 c2
      have hneq := neq_frame (ym : Int) (yf : Int)
      clear hy2 hyc hiL
      go_wp2
      go_quiet (fail)
      go_wp2
      go_roundw
      case rel => exact ⟨i + 1, by go_num, by omega, ⟨hBr.os, hBr.tape, hBr.output, hBr.size, hBr.block⟩⟩
      case measure => simp [intOf]; omega
    · obtain rfl : i = z := by omega
      go_wp2
      go_loopw [12] (fun v wr => ∃ j : Nat, v = .int .i64 j ∧ 1 ≤ j ∧ j ≤ B ∧ Below w5.heap.size w5 wr) (fun v _ => B - (intOf v).toNat)
      case atStart => exact ⟨1, rfl, Nat.le_refl _, by have := HB.out; omega, hBr⟩
      case round =>
        obtain ⟨j, rfl, hj1, hj2, hBr2⟩ := hrel
        by_cases hjl : j < B
        · have hjl2 : (j : Int) < (B : Int) := by omega
          obtain ⟨d, rfl⟩ : ∃ d, j = d + 1 := ⟨j - 1, by omega⟩
          have hdv : d < v.length := by have := HB.out; rw [HV.out]; omega
          have hd8 : d ≤ 101 := by omega
          obtain ⟨y3, hy3⟩ : ∃ y3, v[d]? = some y3 := ⟨_, List.getElem?_eq_getElem hdv⟩
          have hub := HUP.out y3 (List.mem_of_getElem? hy3)
          have hyb : ((0, 0) :: v)[d + 1]? = some y3 := by rw [List.getElem?_cons_succ]; exact hy3
          have hyc : (L ++ shift s.size v)[i + d]? = some (y3.1, y3.2 + s.size) := by
            rw [List.getElem?_append_right (by rw [HL.out]; omega), HL.out, show i + d - i = d by omega]
            unfold shift
            rw [List.getElem?_map, hy3]
            rfl
          obtain ⟨b1, b2⟩ := (fw_below hFb5 hBr2).cell hyb
          obtain ⟨c1, c2⟩ := (fw_below hLc hBr2).cell hyc
          obtain ⟨ym, yf⟩ := y3
          simp only at b1 b2 c1 c2 hub
          obtain ⟨J, hJ⟩ : ∃ J, J = d + 1 := ⟨_, rfl⟩
          obtain ⟨E, hE⟩ : ∃ E, E = i + d := ⟨_, rfl⟩
          obtain ⟨E2, hE2⟩ : ∃ E2, E2 = E + 1 := ⟨_, rfl⟩
          obtain ⟨G, hG⟩ : ∃ G, G = yf + s.size := ⟨_, rfl⟩
          rw [← hJ] at b1 b2 hjl2 ⊢
          rw [← hE] at c1 c2
          rw [← hG] at c2
          have r1 : IntKind.i64.wrap ((i : Int) + (J : Int)) = (E2 : Int) := by rw [IntWalk.i64_in _ (by omega)]; omega
          have r2 : IntKind.i64.wrap ((E2 : Int) - 1) = (E : Int) := by rw [IntWalk.i64_in _ (by omega)]; omega
          have r3 : IntKind.i64.wrap ((yf : Int) + (s.size : Int)) = (G : Int) := by rw [IntWalk.i64_in _ (by omega)]; omega
          have r4 : (E : Int) < (C : Int) := by have h1 := HC.out; have h2 := HB.out; omega
          have r5 : (0 : Int) ≤ (E : Int) := by omega
          have r6 : (0 : Int) ≤ (J : Int) := by omega
          have HJ := Lib.hid hJ
          have hJB : J ≤ B := by omega
          have hJ1 : J + 1 ≤ B := by omega
          clear hy3 hyb hyc hdv hub hJ hE hE2 hG hj1 hj2
          go_wp2
          go_quiet (fail)
          go_wp2
          go_roundw
          case rel => exact ⟨J + 1, by go_num, by omega, by omega, ⟨hBr2.os, hBr2.tape, hBr2.output, hBr2.size, hBr2.block⟩⟩
          case measure => simp [intOf]; omega
        · obtain rfl : j = B := by omega
          go_wp2
          go_ret
          exact ⟨rfl, hB5.trans (hBr2.mono hB5.size)⟩
set_option maxRecDepth 100000 in
set_option maxHeartbeats 8000000 in
theorem inner_no (s t : ByteArray) (w : World) (hs : s.size ≤ 100) (ht : t.size ≤ 100) (hq : inB 41 t = false) (m f : Nat) (r : List Fr) (fr : Bool) (hx : runK s s.size = ⟨(m, f) :: r, fr⟩) (hm : ¬ opensD m) :
    Calls Try.prog 8 #[.string s, .string t] w fun e w' => e = .returned (.bool true) ∧ Below w.heap.size w w' := by
  have t1 : decide ((100 : Int) < s.size) = false := decide_eq_false_iff_not.2 (by omega)
  have t2 : decide ((100 : Int) < t.size) = false := decide_eq_false_iff_not.2 (by omega)
  have hin := fun W => in_any 41 t W (by omega)
  rw [hq] at hin
  have hrun := fun W => run_any W s (by omega)
  have hrb := fun W => run_any W (dB ++ t) (by rw [ByteArray.size_append]; show 2 + t.size ≤ _; omega)
  have hrc := fun W => run_any W ((s ++ dB) ++ t) (by rw [ByteArray.size_append, ByteArray.size_append]; show s.size + 2 + t.size ≤ _; omega)
  have hlen := runK_len s s.size
  have hst := inner_states (s := s) (t := t)
  rw [hx] at hlen hst
  simp only [hx] at hrun
  clear hst hrb hrc hx hq
  simp only [List.length_cons] at hlen
  obtain ⟨z, hz⟩ : ∃ z, z = r.length + 1 := ⟨_, rfl⟩
  obtain ⟨k, hk⟩ : ∃ k, r.length = k := ⟨_, rfl⟩
  have e1 : IntKind.i64.wrap ((z : Int) - 1) = (k : Int) := by rw [IntWalk.i64_in _ (by omega)]; omega
  have q1 : (k : Int) < (z : Int) := by omega
  have q0 : (0 : Int) ≤ (k : Int) := by omega
  have q2 : ((z : Int) == 0) = false := beq_eq_false_iff_ne.2 (by omega)
  have hz8 : z ≤ 102 := by omega
  have u0 : ((m : Int) == 0) = false := beq_eq_false_iff_ne.2 (by unfold opensD at hm; omega)
  have u1 : ((m : Int) == 1) = false := beq_eq_false_iff_ne.2 (by unfold opensD at hm; omega)
  have u2 : ((m : Int) == 2) = false := beq_eq_false_iff_ne.2 (by unfold opensD at hm; omega)
  have u5 : ((m : Int) == 5) = false := beq_eq_false_iff_ne.2 (by unfold opensD at hm; omega)
  have u7 : ((m : Int) == 7) = false := beq_eq_false_iff_ne.2 (by unfold opensD at hm; omega)
  have u8 : ((m : Int) == 8) = false := beq_eq_false_iff_ne.2 (by unfold opensD at hm; omega)
  have u9 : ((m : Int) == 9) = false := beq_eq_false_iff_ne.2 (by unfold opensD at hm; omega)
  have u10 : ((m : Int) == 10) = false := beq_eq_false_iff_ne.2 (by unfold opensD at hm; omega)
  clear hm
  go_enter Try.func8, Try.ntmps8
  go_wp2_with fail
  refine (awake_any _).mono ?_
  rintro e w1 ⟨rfl, hb1⟩
  go_wp2_with fail
  refine (hin _).mono ?_
  rintro e w2 ⟨rfl, rfl⟩
  go_wp2_with fail
  refine (hrun _).mono ?_
  rintro e w3 ⟨⟨v, rfl, hRs⟩, hb3⟩
  obtain ⟨ga, capa, rfl, hga, hFa⟩ := rs_st hRs
  have ca := (hFa.cell (j := r.length) (x := (m, f)) (by simp)).1
  simp only at ca
  rw [hk] at ca
  simp only [List.length_cons, ← hz]
  have HZ := Lib.hid hz
  have HK := Lib.hid hk
  clear hz hk
  go_wp2
  go_ret
  exact ⟨rfl, hb1.trans (hb3.mono hb1.size)⟩

set_option maxRecDepth 100000 in
set_option maxHeartbeats 16000000 in
theorem inner_in (s t : ByteArray) (w : World) (hs : s.size ≤ 100) (ht : t.size ≤ 100) (hq : inB 41 t = false) :
    Calls Try.prog 8 #[.string s, .string t] w fun e w' => e = .returned (.bool true) ∧ Below w.heap.size w w' := by
  obtain ⟨x, hx⟩ : ∃ x, runK s s.size = x := ⟨_, rfl⟩
  have hI := runK_inv s s.size
  rw [hx] at hI
  obtain ⟨st, fr⟩ := x
  cases st with
  | nil => exact absurd hI.good (by simp [good])
  | cons a r =>
    obtain ⟨m, f⟩ := a
    by_cases e0 : m = 0
    · subst e0
      exact inner_0 s t w hs ht hq f r fr hx
    by_cases e1 : m = 1
    · subst e1
      exact inner_1 s t w hs ht hq f r fr hx
    by_cases e2 : m = 2
    · subst e2
      exact inner_2 s t w hs ht hq f r fr hx
    by_cases e5 : m = 5
    · subst e5
      exact inner_5 s t w hs ht hq f r fr hx
    by_cases e7 : m = 7
    · subst e7
      exact inner_7 s t w hs ht hq f r fr hx
    by_cases e8 : m = 8
    · subst e8
      exact inner_8 s t w hs ht hq f r fr hx
    by_cases e9 : m = 9
    · subst e9
      exact inner_9 s t w hs ht hq f r fr hx
    by_cases e10 : m = 10
    · subst e10
      exact inner_10 s t w hs ht hq f r fr hx
    have hm : ¬ opensD m := by unfold opensD; omega
    exact inner_no s t w hs ht hq m f r fr hx hm

set_option maxHeartbeats 4000000 in
theorem inner_law (s t : ByteArray) (w : World) (hs : s.size ≤ 9223372036854775807) (ht : t.size ≤ 9223372036854775807) :
    Calls Try.prog 8 #[.string s, .string t] w fun e w' => e = .returned (.bool true) ∧ Below w.heap.size w w' := by
  by_cases h1 : 100 < s.size
  · have t1 : decide ((100 : Int) < s.size) = true := decide_eq_true_iff.2 (by omega)
    go_enter Try.func8, Try.ntmps8
    go_wp2_with fail
    refine (awake_any _).mono ?_
    rintro e w1 ⟨rfl, hb1⟩
    go_wp2
    go_ret
    exact ⟨rfl, hb1⟩
  have t1 : decide ((100 : Int) < s.size) = false := decide_eq_false_iff_not.2 (by omega)
  by_cases h2 : 100 < t.size
  · have t2 : decide ((100 : Int) < t.size) = true := decide_eq_true_iff.2 (by omega)
    go_enter Try.func8, Try.ntmps8
    go_wp2_with fail
    refine (awake_any _).mono ?_
    rintro e w1 ⟨rfl, hb1⟩
    go_wp2
    go_ret
    exact ⟨rfl, hb1⟩
  have t2 : decide ((100 : Int) < t.size) = false := decide_eq_false_iff_not.2 (by omega)
  cases hq : inB 41 t with
  | true =>
    have hin := fun W => in_any 41 t W (by omega)
    rw [hq] at hin
    clear hq
    go_enter Try.func8, Try.ntmps8
    go_wp2_with fail
    refine (awake_any _).mono ?_
    rintro e w1 ⟨rfl, hb1⟩
    go_wp2_with fail
    refine (hin _).mono ?_
    rintro e w2 ⟨rfl, rfl⟩
    go_wp2
    go_ret
    exact ⟨rfl, hb1⟩
  | false => exact inner_in s t w (by omega) (by omega) hq
end Go.Proofs.Ytjbehefbdfampaa

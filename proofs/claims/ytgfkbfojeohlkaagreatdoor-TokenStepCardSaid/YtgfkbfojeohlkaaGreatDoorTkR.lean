/- What blank, Here and Shut of the document's own layer 9 return: where blanks end, where a here-document ends, whether a word is shut. Condition: texts of at most 80,000 bytes. -/
import Derived.Test.YtgfkbfojeohlkaaGreatDoorQk
import Derived.Test.YtgfkbfojeohlkaaGreatDoorQl
namespace Go.Proofs.YtgfkbfojeohlkaaGreatDoor
open Go.RowKit
set_option linter.unusedVariables false
set_option linter.unusedSectionVars false

theorem cls_one (n : Nat) : cls n = 1 ↔ n = 32 ∨ n = 9 := by
  unfold cls
  repeat' split
  all_goals omega
def RbRl (s : ByteArray) (E : Nat) (w : World) (v : Value) (wr : World) : Prop := ∃ b : Nat, b ≤ s.size ∧ v = .int .i64 (b : Int) ∧ blE s b = E ∧ wr = w
section
variable (w : World)
set_option maxRecDepth 100000 in
set_option maxHeartbeats 4000000 in
theorem rblank_any (s : ByteArray) (a : Nat) (ha : a ≤ s.size) (hs : s.size ≤ 1000000) :
    Calls Tryz.prog 52 #[.string s, .int .i64 (a : Int)] w fun e w' => e = .returned (.int .i64 ((blE s a : Nat) : Int)) ∧ w' = w := by
  obtain ⟨E, hE⟩ : ∃ E, blE s a = E := ⟨_, rfl⟩
  rw [hE]
  have HE := Lib.hid hE
  clear hE
  go_enter Tryz.func52, Tryz.ntmps52
  go_wp2
  go_loopw [1] (fun v wr => RbRl s E w v wr) (fun v _ => s.size - (intOf v).toNat)
  case atStart => exact ⟨a, ha, rfl, HE.out, rfl⟩
  case round =>
    obtain ⟨b, hbs, rfl, hbe, rfl⟩ := hrel
    have HBE := Lib.hid hbe
    clear hbe HE
    by_cases hlt : b < s.size
    · have q0 : (0 : Int) ≤ (b : Int) := by omega
      have q1 : (b : Int) < (s.size : Int) := by omega
      obtain ⟨c, hc⟩ : ∃ c, by8 s b = c := ⟨_, rfl⟩
      have hix : ∀ hh : b < s.size, (s[b]'hh).toNat = c := fun hh => by rw [← hc]; unfold by8; rw [bt_eq hh]
      have hone : ∀ k, b1 s b = k → k ≠ 0 → blE s (b + k) = E := fun k h h0 => by
        have := blE_one hbs (by rw [h]; exact h0)
        rw [h] at this
        rw [← this]; exact HBE.out
      have HONE := Lib.hid hone
      have HC := Lib.hid hc
      have hcl : (c = 32 ∨ c = 9) → b1 s b = 1 := fun h => by
        unfold b1
        rw [if_pos ⟨hlt, (cls_one _).2 (by show by8 s b = 32 ∨ by8 s b = 9; rw [HC.out]; exact h)⟩]
      have hno : ¬ (c = 32 ∨ c = 9) → b1 s b = if b + 1 < s.size ∧ c = 92 ∧ by8 s (b + 1) = 10 then 2 else 0 := fun h => by
        unfold b1
        rw [if_neg (fun e => h (by have := (cls_one _).1 e.2; rw [← HC.out]; exact this)), HC.out]
      have HCL := Lib.hid hcl
      have HNO := Lib.hid hno
      clear hone hc hcl hno
      by_cases h32 : c = 32
      · subst h32
        go_wp2
        go_roundw
        case rel => exact ⟨b + 1, by omega, by go_num, HONE.out 1 (HCL.out (.inl rfl)) (by omega), rfl⟩
        case measure => simp [intOf]; omega
      by_cases h9 : c = 9
      · subst h9
        clear h32
        go_wp2
        go_roundw
        case rel => exact ⟨b + 1, by omega, by go_num, HONE.out 1 (HCL.out (.inr rfl)) (by omega), rfl⟩
        case measure => simp [intOf]; omega
      have hn2 := HNO.out (by omega)
      have t32 : ((c : Int) == 32) = false := beq_eq_false_iff_ne.2 (by omega)
      have t9 : ((c : Int) == 9) = false := beq_eq_false_iff_ne.2 (by omega)
      by_cases h92 : c = 92
      · subst h92
        clear h32 h9 t32 t9
        obtain ⟨b', hb'⟩ : ∃ b', b + 1 = b' := ⟨_, rfl⟩
        rw [hb'] at hn2
        have r1 : IntKind.i64.wrap ((b : Int) + 1) = (b' : Int) := by rw [IntWalk.i64_in _ (by omega)]; omega
        by_cases hlt2 : b' < s.size
        · have u0 : (0 : Int) ≤ (b' : Int) := by omega
          have u1 : (b' : Int) < (s.size : Int) := by omega
          obtain ⟨c2, hc2⟩ : ∃ c2, by8 s b' = c2 := ⟨_, rfl⟩
          have hix2 : ∀ hh : b' < s.size, (s[b']'hh).toNat = c2 := fun hh => by rw [← hc2]; unfold by8; rw [bt_eq hh]
          rw [hc2] at hn2
          have HB' := Lib.hid hb'
          by_cases h10 : c2 = 10
          · rw [if_pos ⟨hlt2, rfl, h10⟩] at hn2
            subst h10
            have hnx := HONE.out 2 hn2 (by omega)
            have HNX := Lib.hid hnx
            clear hn2 hc2 hb' hnx
            go_wp2
            go_roundw
            case rel => exact ⟨b + 2, by have := HB'.out; omega, by go_num, HNX.out, rfl⟩
            case measure => simp [intOf]; have := HB'.out; omega
          · rw [if_neg (fun e => h10 e.2.2)] at hn2
            have t10 : ((c2 : Int) == 10) = false := beq_eq_false_iff_ne.2 (by omega)
            have hst : b = E := by rw [← blE_stop hn2]; exact HBE.out
            have HST := Lib.hid hst
            clear hn2 hc2 hb' hst h10
            go_wp2
            go_ret
            exact ⟨by rw [HST.out]; rfl, rfl⟩
        · have u1 : ¬ (b' : Int) < (s.size : Int) := by omega
          rw [if_neg (fun e => hlt2 e.1)] at hn2
          have hst : b = E := by rw [← blE_stop hn2]; exact HBE.out
          have HST := Lib.hid hst
          clear hn2 hb' hst hlt2
          go_wp2
          go_ret
          exact ⟨by rw [HST.out]; rfl, rfl⟩
      · rw [if_neg (fun e => h92 e.2.1)] at hn2
        have t92 : ((c : Int) == 92) = false := beq_eq_false_iff_ne.2 (by omega)
        have hst : b = E := by rw [← blE_stop hn2]; exact HBE.out
        have HST := Lib.hid hst
        clear hn2 hst h92 h32 h9
        go_wp2
        go_ret
        exact ⟨by rw [HST.out]; rfl, rfl⟩
    · have q1 : ¬ (b : Int) < (s.size : Int) := by omega
      have hst : b = E := by
        have : b1 s b = 0 := by unfold b1; rw [if_neg (fun e => hlt e.1), if_neg (by omega)]
        rw [← blE_stop this]; exact HBE.out
      have HST := Lib.hid hst
      clear hst hlt
      go_wp2
      go_ret
      exact ⟨by rw [HST.out]; rfl, rfl⟩

theorem over_ne {m2 m : Nat} (h : over m2 m = true) : m ≠ 0 := by rintro rfl; simp [over] at h
theorem closeB_ne {m : Nat} (hm : m ≤ 14) (h0 : m ≠ 0) (h12 : m ≠ 12) : closeB m ≠ [] := by
  obtain ⟨b, l, e, _⟩ := closeB_head hm h0 h12
  rw [e]; simp
theorem closeL_nil {st : List Fr} (hg : good st) : closeL st = [] ↔ st.length = 1 ∨ (st.length = 2 ∧ top st = 12) := by
  match st, hg with
  | [], hg => exact absurd hg (by simp [good])
  | [(m, f)], hg =>
    have : m = 0 := hg
    subst this
    exact ⟨fun _ => .inl rfl, fun _ => rfl⟩
  | (m, f) :: (m2, f2) :: r, hg =>
    obtain ⟨ho, hg2⟩ := good_two hg
    have h0 := over_ne ho
    have hB := over_base ho
    unfold base at hB
    rw [decide_eq_true_iff] at hB
    have e : closeL ((m, f) :: (m2, f2) :: r) = closeB m ++ (closeB m2 ++ closeL r) := rfl
    have hl : ((m, f) :: (m2, f2) :: r).length = r.length + 2 := rfl
    rw [e, hl]
    by_cases h12 : m = 12
    · subst h12
      have e0 : closeB 12 = [] := rfl
      rw [e0, List.nil_append]
      match r, hg2 with
      | [], hg2 =>
        have : m2 = 0 := hg2
        subst this
        exact ⟨fun _ => .inr ⟨rfl, rfl⟩, fun _ => rfl⟩
      | (m3, f3) :: r3, hg2 =>
        obtain ⟨ho2, _⟩ := good_two hg2
        have hne := closeB_ne (good_le hg2) (over_ne ho2) hB.2.2.2.1
        constructor
        · intro h
          exact absurd (List.append_eq_nil_iff.1 h).1 hne
        · intro h
          have : ((m3, f3) :: r3).length = r3.length + 1 := rfl
          omega
    · have hne := closeB_ne (good_le hg) h0 h12
      constructor
      · intro h
        exact absurd (List.append_eq_nil_iff.1 h).1 hne
      · rintro (h | ⟨_, h⟩)
        · omega
        · exact absurd h h12
theorem shut_iff {x : Ms} (h : Inv x) : (closeL x.st).isEmpty = (decide (ltS x.st.reverse = ⟨#[84]⟩) || decide (ltS x.st.reverse = ⟨#[84, 76]⟩)) := by
  rw [Bool.eq_iff_iff, List.isEmpty_iff, closeL_nil h.good]
  simp only [Bool.or_eq_true, decide_eq_true_eq, good_T h.good, good_TL h.good]
set_option maxRecDepth 100000 in
set_option maxHeartbeats 4000000 in
theorem rshut_any (t : ByteArray) (ht : t.size ≤ 80000) :
    Calls Tryz.prog 58 #[.string t] w fun e w' => e = .returned (.bool (!opnW t)) ∧ Below w.heap.size w w' := by
  have hop : (!opnW t) = (closeL (runK t t.size).st).isEmpty := by unfold opnW; rw [Bool.not_not]
  rw [hop, shut_iff (runK_inv t t.size)]
  have hrun := fun W => refrun_any W t ht
  generalize runK t t.size = x at hrun ⊢
  obtain ⟨S, hS⟩ : ∃ S, ltS x.st.reverse = S := ⟨_, rfl⟩
  have HRUN := Lib.hid hrun
  have HS := Lib.hid hS
  rw [hS]
  have hT : (S.toList == (⟨#[84]⟩ : ByteArray).toList) = decide (S = ⟨#[84]⟩) := bs_eqb _ _
  have hTL : (S.toList == (⟨#[84, 76]⟩ : ByteArray).toList) = decide (S = ⟨#[84, 76]⟩) := bs_eqb _ _
  rw [show (⟨#[84]⟩ : ByteArray).toList = [84] by rw [Go.ByteArray.toList_eq]] at hT
  rw [show (⟨#[84, 76]⟩ : ByteArray).toList = [84, 76] by rw [Go.ByteArray.toList_eq]] at hTL
  obtain ⟨cT, hcT⟩ : ∃ cT, decide (S = ⟨#[84]⟩) = cT := ⟨_, rfl⟩
  obtain ⟨cL, hcL⟩ : ∃ cL, decide (S = ⟨#[84, 76]⟩) = cL := ⟨_, rfl⟩
  rw [hcT] at hT ⊢
  rw [hcL] at hTL ⊢
  clear hrun hS hop hcT hcL
  cases cT with
  | true =>
    go_enter Tryz.func58, Tryz.ntmps58
    go_wp2_with fail
    refine (HRUN.out _).mono ?_
    rintro e w1 ⟨S1, g, n, cap, rfl, hR, hB1, _⟩
    obtain rfl : S1 = S := hR.s.trans HS.out
    have kb := Blk.new w1 #[.string S1, .slice (some ⟨g, 0, none⟩) n cap, .bool x.fresh] 117
    have c0 := kb.cell 0
    clear hR
    go_wp2
    go_ret
    exact ⟨rfl, hB1.alloc hB1.size _⟩
  | false =>
    go_enter Tryz.func58, Tryz.ntmps58
    go_wp2_with fail
    refine (HRUN.out _).mono ?_
    rintro e w1 ⟨S1, g, n, cap, rfl, hR, hB1, _⟩
    obtain rfl : S1 = S := hR.s.trans HS.out
    have kb := Blk.new w1 #[.string S1, .slice (some ⟨g, 0, none⟩) n cap, .bool x.fresh] 117
    have c0 := kb.cell 0
    clear hR
    go_wp2
    go_ret
    exact ⟨by simp, hB1.alloc hB1.size _⟩

def bitI (b : Bool) : Int := if b = true then 1 else 0
def HrRl (s : ByteArray) (d : Dl) (E : Nat) (B : Bool) (W : World) (v8 v9 : Value) (wr : World) : Prop :=
  ∃ f i : Nat, f ≤ i ∧ i ≤ s.size + 1 ∧ (i = s.size + 1 → s.size ≤ f) ∧ v8 = .int .i64 (f : Int) ∧ v9 = .int .i64 (i : Int) ∧ (∀ j, f ≤ j → j < i → j < s.size → by8 s j ≠ 10) ∧ dA s d f = (E, B) ∧ Drew W wr
def HkRl (s : ByteArray) (f i : Nat) (tb : Bool) (W : World) (v10 : Value) (wr : World) : Prop :=
  ∃ k : Nat, f ≤ k ∧ k ≤ i ∧ v10 = .int .i64 (k : Int) ∧ (∀ j, f ≤ j → j < k → by8 s j = 9) ∧ (tb = false → k = f) ∧ wr = W
theorem tbN_eq {s : ByteArray} {f i k : Nat} {tb : Bool} (h1 : f ≤ k) (h2 : k ≤ i) (h3 : ∀ j, f ≤ j → j < k → by8 s j = 9) (h4 : tb = false → k = f) (h5 : tb = true → k < i → by8 s k ≠ 9) : f + tbN s f i tb = k := by
  unfold tbN
  cases tb with
  | false => rw [if_neg (by decide), h4 rfl, Nat.add_zero]
  | true =>
    rw [if_pos rfl, lead_eq (n := k - f) _ (by omega) (fun j hj => by
      have := h3 (f + j) (by omega) (by omega)
      simpa using this) (fun hj => by
      have := h5 rfl (by omega)
      rw [show f + (k - f) = k by omega]
      simpa using this)]
    omega
theorem dA_line {s : ByteArray} {d : Dl} {f i E : Nat} {B : Bool} (h1 : f ≤ i) (h2 : i ≤ s.size) (h0 : f < s.size) (hin : ∀ j, f ≤ j → j < i → j < s.size → by8 s j ≠ 10) (h10 : i < s.size → by8 s i = 10) (hd : dA s d f = (E, B)) {k : Nat} (hk : f + tbN s f i d.tabs = k) :
    (s.extract k i = d.word → E = (if i < s.size then i + 1 else i) ∧ B = true) ∧ (s.extract k i ≠ d.word → dA s d (i + 1) = (E, B)) := by
  have hn : nlE s f = i := nlE_eq h1 h2 (fun j a b => hin j a b (by omega)) h10
  have hl := delL_at h1 h2 hn h0 d
  rw [hk] at hl
  rw [dA_next s d h0, hl] at hd
  have hln : lnE s f = if i < s.size then i + 1 else i := by
    unfold lnE
    rw [hn]
    split
    · rfl
    · omega
  constructor
  · intro e
    rw [if_pos (decide_eq_true e), hln] at hd
    injection hd with e1 e2
    exact ⟨e1.symm, e2.symm⟩
  · intro e
    rw [if_neg (by rw [decide_eq_false e]; decide), hln] at hd
    by_cases g : i < s.size
    · rw [if_pos g] at hd; exact hd
    · rw [if_neg g] at hd
      rw [dA_end s d (by omega)] at hd ⊢
      exact hd
set_option maxRecDepth 100000 in
set_option maxHeartbeats 8000000 in
theorem rhere_any (s : ByteArray) (a : Nat) (d : Dl) (ha : a ≤ s.size) (hs : s.size ≤ 1000000) :
    Calls Tryz.prog 29 #[.string s, .int .i64 (a : Int), .agg #[.string d.word, .bool d.tabs]] w fun e w' => e = .returned (.tuple #[.int .i64 (((dA s d a).1 : Nat) : Int), .int .i64 (bitI (dA s d a).2)]) ∧ Below w.heap.size w w' := by
  obtain ⟨⟨E, B⟩, hEB⟩ : ∃ p, dA s d a = p := ⟨_, rfl⟩
  rw [hEB]
  have HEB := Lib.hid hEB
  have HLN := Lib.hid (fun (f i : Nat) => @dA_line s d f i E B)
  have HEN := Lib.hid (fun (f : Nat) => @dA_end s d f)
  obtain ⟨wd, tb⟩ := d
  have HW : Hid ((⟨wd, tb⟩ : Dl).word = wd ∧ (⟨wd, tb⟩ : Dl).tabs = tb) := Lib.hid ⟨rfl, rfl⟩
  obtain ⟨D, hD⟩ : ∃ D : Dl, (⟨wd, tb⟩ : Dl) = D := ⟨_, rfl⟩
  rw [hD] at HEB HLN HEN HW
  clear hEB hD
  have kb := Blk.new w #[.string wd, .bool tb] 49
  have hB1 : Below w.heap.size w (w.alloc (.cells #[.string wd, .bool tb] 49)) := (Below.refl _ w).alloc (Nat.le_refl _) _
  go_enter Tryz.func29, Tryz.ntmps29
  go_wp2
  obtain ⟨W1, hW1⟩ : ∃ X, w.alloc (.cells #[.string wd, .bool tb] 49) = X := ⟨_, rfl⟩
  obtain ⟨Bd, hBd⟩ : ∃ z, w.heap.size = z := ⟨_, rfl⟩
  have HBD := Lib.hid hBd
  rw [hW1] at kb hB1 ⊢
  rw [hBd] at kb ⊢
  have HB1 := Lib.hid hB1
  clear hW1 hBd hB1
  go_loopw [8, 9] (fun v8 v9 wr => HrRl s D E B W1 v8 v9 wr) (fun _ v _ => s.size + 1 - (intOf v).toNat)
  case atStart => exact ⟨a, a, Nat.le_refl _, by omega, fun h => by omega, rfl, rfl, fun j h1 h2 => by omega, HEB.out, Drew.refl _⟩
  case round =>
    obtain ⟨f, i, hfi, his, hie, rfl, rfl, hin, hd, hdr⟩ := hrel
    have kb1 : Blk wr Bd #[.string wd, .bool tb] 49 := by obtain ⟨q, rfl⟩ := hdr; exact kb.drewN q
    have c0 := kb1.cell 0
    have c1 := kb1.cell 1
    have HIN := Lib.hid hin
    have HD := Lib.hid hd
    have hBf : Below w.heap.size w wr := HB1.out.trans (hdr.below)
    have HBF := Lib.hid hBf
    have HDR := Lib.hid hdr
    clear hin hd hBf hdr kb kb1
    by_cases hend : i = s.size + 1
    · have hfs := hie hend
      have hde := HEN.out f (by omega)
      have hee := HD.out.symm.trans hde
      injection hee with e1 e2
      subst e1 e2
      have q1 : ¬ (i : Int) ≤ (s.size : Int) := by omega
      clear hde hend hie
      go_wp2
      go_ret2
      exact ⟨rfl, HBF.out⟩
    have his2 : i ≤ s.size := by omega
    have q1 : (i : Int) ≤ (s.size : Int) := by omega
    have q0 : (0 : Int) ≤ (i : Int) := by omega
    clear hie hend his
    by_cases hlt : i < s.size
    · have q2 : (i : Int) < (s.size : Int) := by omega
      obtain ⟨c, hc⟩ : ∃ c, by8 s i = c := ⟨_, rfl⟩
      have hix : ∀ hh : i < s.size, (s[i]'hh).toNat = c := fun hh => by rw [← hc]; unfold by8; rw [bt_eq hh]
      have HC := Lib.hid hc
      clear hc
      have q3 : ((i : Int) == (s.size : Int)) = false := beq_eq_false_iff_ne.2 (by omega)
      by_cases h10 : c = 10
      · have HTEN : Hid (by8 s i = 10) := Lib.hid (HC.out.trans h10)
        subst h10
        go_wp2
        go_loopw [10] (fun v10 wq => HkRl s f i tb wr v10 wq) (fun v _ => i - (intOf v).toNat)
        case atStart => exact ⟨f, Nat.le_refl _, hfi, rfl, fun j h1 h2 => by omega, fun _ => rfl, rfl⟩
        case round =>
          obtain ⟨k, hfk, hki, rfl, hk9, hkf, rfl⟩ := hrel
          have u0 : (0 : Int) ≤ (k : Int) := by omega
          have u1 : (k : Int) ≤ (i : Int) := by omega
          have HK9 := Lib.hid hk9
          have HKF := Lib.hid hkf
          have hstep : (tb = true → k < i → by8 s k ≠ 9) → (s.extract k i = wd → E = i + 1 ∧ B = true) ∧ (s.extract k i ≠ wd → dA s D (i + 1) = (E, B)) := fun h5 => by
            have := HLN.out f i hfi his2 (by omega) HIN.out (fun _ => HTEN.out) HD.out (k := k) (by rw [HW.out.2]; exact tbN_eq hfk hki HK9.out HKF.out h5)
            rw [HW.out.1, if_pos hlt] at this
            exact this
          have HSTEP := Lib.hid hstep
          obtain ⟨X, hX⟩ : ∃ X, s.extract k i = X := ⟨_, rfl⟩
          rw [hX] at HSTEP
          have hteq := bs_eqb X wd
          obtain ⟨ce, hce⟩ : ∃ ce, decide (X = wd) = ce := ⟨_, rfl⟩
          rw [hce] at hteq
          have HCE := Lib.hid hce
          clear hk9 hkf hstep hce
          cases tb with
          | false =>
            have HST := Lib.hid (HSTEP.out (fun h => by cases h))
            cases ce with
            | true =>
              obtain ⟨e1, e2⟩ := HST.out.1 (of_decide_eq_true HCE.out)
              have HE1 := Lib.hid e1
              subst e2
              clear e1
              go_wp2
              go_quiet (fail)
              go_wp2
              go_ret2
              rw [HE1.out]
              exact ⟨rfl, below_drewN HBF.out _⟩
            | false =>
              have hnx := HST.out.2 (of_decide_eq_false HCE.out)
              have HNX := Lib.hid hnx
              clear hnx
              go_wp2
              go_quiet (fail)
              go_wp2
              go_roundw
              case rel => exact ⟨i + 1, i + 1, Nat.le_refl _, by omega, fun h => by omega, by go_num, by go_num, fun j h1 h2 => by omega, HNX.out, HDR.out.drewN _⟩
              case measure => simp [intOf]; omega
          | true =>
            by_cases hki2 : k < i
            · have u2 : (k : Int) < (i : Int) := by omega
              have hks : k < s.size := by omega
              have u3 : (k : Int) < (s.size : Int) := by omega
              obtain ⟨cc, hcc⟩ : ∃ cc, by8 s k = cc := ⟨_, rfl⟩
              have hixk : ∀ hh : k < s.size, (s[k]'hh).toNat = cc := fun hh => by rw [← hcc]; unfold by8; rw [bt_eq hh]
              have HCCC := Lib.hid hcc
              clear hcc
              by_cases h9 : cc = 9
              · have HNI : Hid (by8 s k = 9) := Lib.hid (HCCC.out.trans h9)
                subst h9
                clear hteq
                go_wp2
                go_roundw
                case rel =>
                  refine ⟨k + 1, by omega, by omega, by go_num, fun j h1 h2 => ?_, (fun h => by cases h), by first | rfl | trivial⟩
                  by_cases e : j = k
                  · rw [e]; exact HNI.out
                  · exact HK9.out j h1 (by omega)
                case measure => simp [intOf]; omega
              · have t9 : ((cc : Int) == 9) = false := beq_eq_false_iff_ne.2 (by omega)
                have HST := Lib.hid (HSTEP.out (fun _ _ => by rw [HCCC.out]; exact h9))
                clear h9
                cases ce with
                | true =>
                  obtain ⟨e1, e2⟩ := HST.out.1 (of_decide_eq_true HCE.out)
                  have HE1 := Lib.hid e1
                  subst e2
                  clear e1
                  go_wp2
                  go_quiet (fail)
                  go_wp2
                  go_ret2
                  rw [HE1.out]
                  exact ⟨rfl, below_drewN HBF.out _⟩
                | false =>
                  have hnx := HST.out.2 (of_decide_eq_false HCE.out)
                  have HNX := Lib.hid hnx
                  clear hnx
                  go_wp2
                  go_quiet (fail)
                  go_wp2
                  go_roundw
                  case rel => exact ⟨i + 1, i + 1, Nat.le_refl _, by omega, fun h => by omega, by go_num, by go_num, fun j h1 h2 => by omega, HNX.out, HDR.out.drewN _⟩
                  case measure => simp [intOf]; omega
            · have u2 : ¬ (k : Int) < (i : Int) := by omega
              have HST := Lib.hid (HSTEP.out (fun _ h => absurd h hki2))
              clear hki2
              cases ce with
              | true =>
                obtain ⟨e1, e2⟩ := HST.out.1 (of_decide_eq_true HCE.out)
                have HE1 := Lib.hid e1
                subst e2
                clear e1
                go_wp2
                go_quiet (fail)
                go_wp2
                go_ret2
                rw [HE1.out]
                exact ⟨rfl, below_drewN HBF.out _⟩
              | false =>
                have hnx := HST.out.2 (of_decide_eq_false HCE.out)
                have HNX := Lib.hid hnx
                clear hnx
                go_wp2
                go_quiet (fail)
                go_wp2
                go_roundw
                case rel => exact ⟨i + 1, i + 1, Nat.le_refl _, by omega, fun h => by omega, by go_num, by go_num, fun j h1 h2 => by omega, HNX.out, HDR.out.drewN _⟩
                case measure => simp [intOf]; omega
      · have t10 : ((c : Int) != 10) = true := by rw [bne, beq_eq_false_iff_ne.2 (by omega)]; rfl
        have t10' : ((c : Int) == 10) = false := beq_eq_false_iff_ne.2 (by omega)
        clear c0 c1
        go_wp2
        go_roundw
        case rel =>
          refine ⟨f, i + 1, by omega, by omega, fun h => by omega, rfl, by go_num, fun j h1 h2 h3 => ?_, HD.out, HDR.out⟩
          by_cases e : j = i
          · rw [e, HC.out]; exact h10
          · exact HIN.out j h1 (by omega) h3
        case measure => simp [intOf]; omega
    · have q2 : ¬ (i : Int) < (s.size : Int) := by omega
      have q3 : ((i : Int) == (s.size : Int)) = true := beq_iff_eq.2 (by omega)
      by_cases hfe : f = i
      · have q4 : ((f : Int) == (i : Int)) = true := beq_iff_eq.2 (by omega)
        have hfs : s.size ≤ f := by omega
        clear c0 c1
        go_wp2
        go_roundw
        case rel =>
          exact ⟨f, i + 1, by omega, by omega, fun h => hfs, rfl, by go_num, fun j h1 h2 h3 => by omega, HD.out, HDR.out⟩
        case measure => simp [intOf]; omega
      · have q4 : ((f : Int) == (i : Int)) = false := beq_eq_false_iff_ne.2 (by omega)
        go_wp2
        go_loopw [10] (fun v10 wq => HkRl s f i tb wr v10 wq) (fun v _ => i - (intOf v).toNat)
        case atStart => exact ⟨f, Nat.le_refl _, hfi, rfl, fun j h1 h2 => by omega, fun _ => rfl, rfl⟩
        case round =>
          obtain ⟨k, hfk, hki, rfl, hk9, hkf, rfl⟩ := hrel
          have u0 : (0 : Int) ≤ (k : Int) := by omega
          have u1 : (k : Int) ≤ (i : Int) := by omega
          have HK9 := Lib.hid hk9
          have HKF := Lib.hid hkf
          have hstep : (tb = true → k < i → by8 s k ≠ 9) → (s.extract k i = wd → E = i ∧ B = true) ∧ (s.extract k i ≠ wd → dA s D (i + 1) = (E, B)) := fun h5 => by
            have := HLN.out f i hfi his2 (by omega) HIN.out (fun h => absurd h hlt) HD.out (k := k) (by rw [HW.out.2]; exact tbN_eq hfk hki HK9.out HKF.out h5)
            rw [HW.out.1, if_neg hlt] at this
            exact this
          have HSTEP := Lib.hid hstep
          obtain ⟨X, hX⟩ : ∃ X, s.extract k i = X := ⟨_, rfl⟩
          rw [hX] at HSTEP
          have hteq := bs_eqb X wd
          obtain ⟨ce, hce⟩ : ∃ ce, decide (X = wd) = ce := ⟨_, rfl⟩
          rw [hce] at hteq
          have HCE := Lib.hid hce
          clear hk9 hkf hstep hce
          cases tb with
          | false =>
            have HST := Lib.hid (HSTEP.out (fun h => by cases h))
            cases ce with
            | true =>
              obtain ⟨e1, e2⟩ := HST.out.1 (of_decide_eq_true HCE.out)
              have HE1 := Lib.hid e1
              subst e2
              clear e1
              go_wp2
              go_quiet (fail)
              go_wp2
              go_ret2
              rw [HE1.out]
              exact ⟨rfl, below_drewN HBF.out _⟩
            | false =>
              have hnx := HST.out.2 (of_decide_eq_false HCE.out)
              have HNX := Lib.hid hnx
              clear hnx
              go_wp2
              go_quiet (fail)
              go_wp2
              go_roundw
              case rel => exact ⟨i + 1, i + 1, Nat.le_refl _, by omega, fun h => by omega, by go_num, by go_num, fun j h1 h2 => by omega, HNX.out, HDR.out.drewN _⟩
              case measure => simp [intOf]; omega
          | true =>
            by_cases hki2 : k < i
            · have u2 : (k : Int) < (i : Int) := by omega
              have hks : k < s.size := by omega
              have u3 : (k : Int) < (s.size : Int) := by omega
              obtain ⟨cc, hcc⟩ : ∃ cc, by8 s k = cc := ⟨_, rfl⟩
              have hixk : ∀ hh : k < s.size, (s[k]'hh).toNat = cc := fun hh => by rw [← hcc]; unfold by8; rw [bt_eq hh]
              have HCCC := Lib.hid hcc
              clear hcc
              by_cases h9 : cc = 9
              · have HNI : Hid (by8 s k = 9) := Lib.hid (HCCC.out.trans h9)
                subst h9
                clear hteq
                go_wp2
                go_roundw
                case rel =>
                  refine ⟨k + 1, by omega, by omega, by go_num, fun j h1 h2 => ?_, (fun h => by cases h), by first | rfl | trivial⟩
                  by_cases e : j = k
                  · rw [e]; exact HNI.out
                  · exact HK9.out j h1 (by omega)
                case measure => simp [intOf]; omega
              · have t9 : ((cc : Int) == 9) = false := beq_eq_false_iff_ne.2 (by omega)
                have HST := Lib.hid (HSTEP.out (fun _ _ => by rw [HCCC.out]; exact h9))
                clear h9
                cases ce with
                | true =>
                  obtain ⟨e1, e2⟩ := HST.out.1 (of_decide_eq_true HCE.out)
                  have HE1 := Lib.hid e1
                  subst e2
                  clear e1
                  go_wp2
                  go_quiet (fail)
                  go_wp2
                  go_ret2
                  rw [HE1.out]
                  exact ⟨rfl, below_drewN HBF.out _⟩
                | false =>
                  have hnx := HST.out.2 (of_decide_eq_false HCE.out)
                  have HNX := Lib.hid hnx
                  clear hnx
                  go_wp2
                  go_quiet (fail)
                  go_wp2
                  go_roundw
                  case rel => exact ⟨i + 1, i + 1, Nat.le_refl _, by omega, fun h => by omega, by go_num, by go_num, fun j h1 h2 => by omega, HNX.out, HDR.out.drewN _⟩
                  case measure => simp [intOf]; omega
            · have u2 : ¬ (k : Int) < (i : Int) := by omega
              have HST := Lib.hid (HSTEP.out (fun _ h => absurd h hki2))
              clear hki2
              cases ce with
              | true =>
                obtain ⟨e1, e2⟩ := HST.out.1 (of_decide_eq_true HCE.out)
                have HE1 := Lib.hid e1
                subst e2
                clear e1
                go_wp2
                go_quiet (fail)
                go_wp2
                go_ret2
                rw [HE1.out]
                exact ⟨rfl, below_drewN HBF.out _⟩
              | false =>
                have hnx := HST.out.2 (of_decide_eq_false HCE.out)
                have HNX := Lib.hid hnx
                clear hnx
                go_wp2
                go_quiet (fail)
                go_wp2
                go_roundw
                case rel => exact ⟨i + 1, i + 1, Nat.le_refl _, by omega, fun h => by omega, by go_num, by go_num, fun j h1 h2 => by omega, HNX.out, HDR.out.drewN _⟩
                case measure => simp [intOf]; omega
end
end Go.Proofs.YtgfkbfojeohlkaaGreatDoor

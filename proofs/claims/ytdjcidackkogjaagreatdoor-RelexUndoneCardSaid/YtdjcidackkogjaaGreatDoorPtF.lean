/- What Of of layer 7 (parts) returns: the parts of a text, as a row of the call's own. Condition: texts of at most a hundred thousand bytes. -/
import Derived.Test.YtdjcidackkogjaaGreatDoorQp
import Derived.Test.YtdjcidackkogjaaGreatDoorQf
namespace Go.Proofs.YtdjcidackkogjaaGreatDoor
open Go.RowKit
set_option linter.unusedVariables false

def Ge (s : ByteArray) (i : Nat) (x : Nat) : Prt := if ((nt s s.size).take i).any (fun y => y.2 == x) = true then closeP s s.size true (prtK s s.size x) else prtK s s.size x
def LKe (s : ByteArray) (i : Nat) : List Prt := (bornL s s.size).map (Ge s i)
theorem LKe_zero (s : ByteArray) : LKe s 0 = LK s s.size := by
  unfold LKe LK
  congr 1
theorem LKe_get {s : ByteArray} {i m f : Nat} {R : List Fr} (h : (nt s s.size).drop i = (m, f) :: R) : (LKe s i)[idx s f]? = some (prtK s s.size f) := by
  obtain ⟨hp, _, _⟩ := drop_pres h
  unfold LKe
  rw [List.getElem?_map, bornL_get s f (pres_born hp) (pres_lt hp), Option.map_some]
  unfold Ge
  rw [if_neg (by rw [not_taken h]; simp)]
theorem LKe_succ {s : ByteArray} {i m f : Nat} {R : List Fr} (h : (nt s s.size).drop i = (m, f) :: R) : (LKe s i).set (idx s f) (closeP s s.size true (prtK s s.size f)) = LKe s (i + 1) := by
  obtain ⟨hp, _, hi⟩ := drop_pres h
  unfold LKe
  rw [map_set (pres_born hp) (pres_lt hp)]
  apply List.map_congr_left
  intro x _
  have e : (nt s s.size).take (i + 1) = (nt s s.size).take i ++ [(m, f)] := by
    rw [List.take_add_one]
    have : (nt s s.size)[i]? = some (m, f) := by
      have h2 := congrArg (fun l => l[0]?) h
      simpa using h2
    rw [this]
    rfl
  unfold Ge
  rw [e, List.any_append]
  by_cases g : x = f
  · subst g
    simp
  · rw [if_neg g]
    have : ([(m, f)].any fun y => y.2 == x) = false := by simp; omega
    rw [this, Bool.or_false]
theorem LKe_end {s : ByteArray} {i : Nat} (h : (nt s s.size).length ≤ i) : LKe s i = PL s := by
  unfold LKe PL
  apply List.map_congr_left
  intro x hx
  obtain ⟨hlt, _⟩ := bornL_mem.1 hx
  unfold Ge prt
  rw [List.take_of_length_le h]
  by_cases g : pres s s.size x = true
  · have g2 : (nt s s.size).any (fun y => y.2 == x) = true := g
    rw [if_pos g2, if_pos (eK_full g)]
  · have g2 : ¬ (nt s s.size).any (fun y => y.2 == x) = true := g
    have := eK_not hlt (by simpa using g)
    rw [if_neg g2, if_neg (by omega)]

def PtS (w : World) (base : Nat) (v : Value) (L : List Prt) : Prop := w.ownsRow base 142 5 v L.length (cellsP L)
theorem owns_base {w : World} {b c : Nat} {e : TypeId} {size n : Nat} {v : Value} {xs : List Value} (h : w.ownsRow b e size v n xs) (hc : ∀ k, v.ownBlock = some k → c ≤ k) : w.ownsRow c e size v n xs := by
  refine ⟨h.1, ?_⟩
  rcases h.2 with h0 | ⟨g, cap, cur, hv, hb, h5⟩
  · exact .inl h0
  · exact .inr ⟨g, cap, cur, hv, hc g (by rw [hv]; rfl), h5⟩

def OfRel (s : ByteArray) (w : World) (mb fb : Nat) (v : Value) (wr : World) : Prop :=
  ∃ i g cap pv ov, i ≤ s.size ∧ v = .int .i64 (i : Nat) ∧ Mc wr mb g cap (runK s i) i ∧ w.heap.size ≤ g ∧ Fd wr fb s pv (LK s i) ov (OKi s i 0) ∧ (∀ k, ffoot fb pv ov k → w.heap.size ≤ k ∧ k ≠ mb ∧ k ≠ g) ∧ Below w.heap.size w wr ∧ mb < wr.heap.size
def OeRel (s : ByteArray) (w : World) (fb : Nat) (g : Nat) (wr : World) : Prop :=
  ∃ pv oa z oc, Fd wr fb s pv (LKe s ((nt s s.size).length - g)) (.slice oa z oc) (OKi s s.size ((nt s s.size).length - g)) ∧ (∀ k, ffoot fb pv (.slice oa z oc) k → w.heap.size ≤ k) ∧ Below w.heap.size w wr ∧ g ≤ (nt s s.size).length

section
variable (w : World)
set_option maxRecDepth 100000 in
set_option maxHeartbeats 4000000 in
theorem of_parts_any (s : ByteArray) (hs : s.size ≤ 99000) :
    Calls Tryz.prog 131 #[.string s] w fun e w' => (∃ v, e = .returned v ∧ PtS w' w.heap.size v (PL s)) ∧ Below w.heap.size w w' := by
  go_enter Tryz.func131, Tryz.ntmps131
  go_wp2_with fail
  refine (new_any w).mono ?_
  rintro e w1 ⟨rfl, hM1, hB1⟩
  have hs1 := hM1.obj.lt
  have hg1 := hM1.row.lt
  go_wp2
  go_loopw [5, 11] (fun _ v wr => OfRel s w (w.heap.size + 1) w1.heap.size v wr) (fun _ v _ => s.size - (intOf v).toNat)
  case atStart =>
    have hM2 := hM1.frm ((Frm.refl (fun _ => False) w1).alloc (.cells #[.string s, .slice none 0 0, .slice none 0 0] 212)) (fun h => h) (fun h => h)
    refine ⟨0, _, _, .slice none 0 0, .slice none 0 0, Nat.zero_le _, rfl, hM2, Nat.le_refl _, ⟨Blk.new w1 _ _, ⟨rfl, .inl ⟨rfl, rfl⟩⟩, ⟨rfl, .inl ⟨rfl, rfl⟩⟩, by simp [Value.ownBlock], by simp [Value.ownBlock], by simp [Value.ownBlock]⟩, ?_, hB1.alloc hB1.size _, ?_⟩
    · rintro k (rfl | h | h)
      · exact ⟨hB1.size, by omega, by omega⟩
      · simp [Value.ownBlock] at h
      · simp [Value.ownBlock] at h
    · rw [World.size_alloc]; omega
  case round =>
    obtain ⟨i, g, cap, pv, ov, hi, rfl, hM, hg, hF, hk, hB, hlt⟩ := hrel
    clear hM1 hB1
    by_cases hlt2 : (i : Int) < s.size
    · have hlt' : i < s.size := by omega
      have hI := runK_inv s i
      have hlen := runK_len s i
      have hsucc := runK_succ s i
      obtain ⟨x, hx⟩ : ∃ x, runK s i = x := ⟨_, rfl⟩
      rw [hx] at hM hI hlen hsucc
      clear hx
      have hby : (s[i].toNat : Int) = (by8 s i : Nat) := by unfold by8; rw [bt_eq hlt']
      have hb8 := by8_lt s i
      obtain ⟨b, hb⟩ : ∃ b, by8 s i = b := ⟨_, rfl⟩
      rw [hb] at hby hb8 hsucc
      have HS := Lib.hid hsucc
      have HI := Lib.hid hI
      clear hsucc hI hb
      go_wp2_with fail
      refine (feed_any (w.heap.size + 1) g cap i _ b x hM HI.out (by omega) hb8 (by omega) _ HS).mono ?_
      rintro e w2 ⟨⟨v, rfl⟩, hT⟩
      obtain ⟨g2, cap2, hM2, hF2, hg2⟩ := hT
      have hI2 := runK_inv s (i + 1)
      have hlen2 := runK_len s (i + 1)
      have hne2 := hI2.ne
      go_wp2_with fail
      refine (frames_any (w.heap.size + 1) g2 cap2 (i + 1) w2 _ hM2 hne2 (by omega)).mono ?_
      rintro e w3 ⟨⟨v3, rfl, hR3⟩, hB3⟩
      obtain ⟨gl, capl, rfl, hgl, hFl⟩ := hR3
      rw [List.length_reverse]
      have hst := nt_st s (i + 1)
      rw [hst, List.reverse_append] at hFl
      have hzl : (runK s (i + 1)).st.length = (nt s (i + 1)).length + 1 := by rw [hst]; simp
      have hcl := hFl.le
      simp at hcl
      obtain ⟨z, hz⟩ : ∃ z, (runK s (i + 1)).st.length = z := ⟨_, rfl⟩
      rw [hz] at hzl hlen2 ⊢
      obtain ⟨i1, hi1⟩ : ∃ i1, i1 = i + 1 := ⟨_, rfl⟩
      have e1 : IntKind.i64.wrap ((i : Int) + 1) = (i1 : Int) := by rw [IntWalk.i64_in _ (by omega)]; omega
      have hF3 : Frm (mfoot (w.heap.size + 1) g) wr w3 := hF2.trans (Frm.of_below hB3 (p := fun _ => False)) (fun _ _ h => h.elim)
      have hFd3 := hF.frm hF3 (fun k h1 h2 => by
        have := hk k h1
        rcases h2 with h2 | h2 <;> omega)
      have hM3 := hM2.frm (Frm.of_below (p := fun _ => False) hB3) (fun h => h) (fun h => h)
      have hkl := hF.lt
      have hglw : wr.heap.size ≤ gl := by have := hF2.size; omega
      have hB3w : Below w.heap.size w w3 := (hB.trans (hF2.below hB.size (by rintro k (h | h) <;> omega))).trans (hB3.mono (Nat.le_trans hB.size hF2.size))
      have hFO : ∀ ao, (ao = some ⟨gl, 2, none⟩ ∨ z = 1) → FrR w3 ao (z - 1) (nt s (i + 1)).reverse := by
        intro ao h
        refine ⟨by simp; omega, fun c x hx => ?_⟩
        have hc : c < (nt s (i + 1)).length := by have := (List.getElem?_eq_some_iff.1 hx).1; simpa using this
        rcases h with rfl | h
        · have := hFl.cell (j := c + 1) (x := x) (by simpa using hx)
          refine ⟨gl, 2, rfl, hFl.lt, ?_, ?_⟩
          · rw [show 2 + c * 2 = (c + 1) * 2 by omega]; exact this.1
          · rw [show 2 + c * 2 + 1 = (c + 1) * 2 + 1 by omega]; exact this.2
        · omega
      have HFO := Lib.hid hFO
      have hfo := Lib.hid (fun ao fcap (h : ao = some ⟨gl, 2, none⟩ ∨ z = 1) (h2 : ∀ b off, ao = some ⟨b, off, none⟩ → b = gl) => follow_any w3 w1.heap.size s pv ov i i1 (Lib.hid hi1) ao (z - 1) fcap hFd3 hlt' (by omega) (hFO ao h) (fun b off hb hff => by
        have h3 := h2 b off hb
        subst h3
        have := hkl b hff
        omega))
      have HZ := Lib.hid hz
      have HZL := Lib.hid hzl
      have HI1 := Lib.hid hi1
      have HCL := Lib.hid hcl
      have hz0 : (1 : Int) ≤ (z : Int) := by omega
      have hz1 : (z : Int) ≤ (capl : Int) := by omega
      have HK := Lib.hid hk
      have HKL := Lib.hid hkl
      clear hz hzl hi1 hFO hst hM hF hF2 hB hM2 hI2 hne2 hB3 hFl hFd3 hF3 hcl hk hkl
      go_wp2_with fail
      all_goals
        refine (hfo.out _ _ (by have := HZL.out; have := HCL.out; first | exact .inl rfl | exact .inr (by omega)) (by intro b off hb; cases hb; rfl)).mono ?_
        rintro e w4 ⟨⟨v4, rfl⟩, hT⟩
        obtain ⟨pv2, ov2, hF4, hFr4, hk4⟩ := hT
        go_wp2
        go_roundw
        case rel =>
          have hM4 := hM3.frm hFr4 (fun h => (HK.out _ h).2.1 rfl) (fun h => by
            have h1 := HK.out _ h
            have h2 := HKL.out _ h
            omega)
          refine ⟨i + 1, g2, cap2, pv2, ov2, by omega, by rw [HI1.out], hM4, by omega, hF4, fun k h => ?_, hB3w.trans (hFr4.below hB3w.size (fun k h => (HK.out k h).1)), by have := hM4.obj.lt; exact this⟩
          have hg2l := hM3.row.lt
          have hmb2 := hM3.obj.lt
          rcases hk4 k h with h | h
          · have h1 := HK.out _ h
            have h2 := HKL.out _ h
            exact ⟨h1.1, h1.2.1, by omega⟩
          · have := hB3w.size
            exact ⟨by omega, by omega, by omega⟩
        case measure => have := HI1.out; simp [intOf]; omega
    · obtain rfl : i = s.size := by omega
      have HF := Lib.hid hF
      have HK := Lib.hid hk
      clear hF hk hM
      go_wp2
      go_loopg [] (nt s s.size).length (fun gg wr => OeRel s w w1.heap.size gg wr)
      case atStart =>
        have h := HF.out
        obtain ⟨oa, oc, rfl⟩ := owns_slice h.opens
        refine ⟨pv, oa, _, oc, ?_, fun k h => (HK.out k h).1, hB, Nat.le_refl _⟩
        rw [Nat.sub_self, LKe_zero]
        exact h
      case round =>
        clear HF HK hB hlt
        obtain ⟨pv2, oa, z, oc, hF2, hk2, hB2, hgj⟩ := hrel
        have c2 := hF2.obj.cell 2
        have c1 := hF2.obj.cell 1
        simp at c1 c2
        have hzo : z = (OKi s s.size ((nt s s.size).length - gk)).length := by
          have h1 := hF2.opens
          rcases h1.2 with ⟨h2, h3⟩ | ⟨_, _, _, h2, _⟩
          · cases h2; exact h3.symm
          · cases h2; rfl
        rw [OKi_len] at hzo
        have HK2 := Lib.hid hk2
        clear hk2
        by_cases hg0 : gk = 0
        · subst hg0
          have hz0 : z = 0 := by omega
          subst hz0
          have hP := hF2.parts
          rw [Nat.sub_zero, LKe_end (Nat.le_refl _)] at hP
          have HP := Lib.hid hP
          clear hF2 hzo hP
          go_wp2
          go_ret
          exact ⟨⟨_, rfl, owns_base HP.out (fun k hk => HK2.out k (.inr (.inl hk)))⟩, hB2⟩
        · cases hD : (nt s s.size).drop ((nt s s.size).length - gk) with
          | nil => exact absurd hD (by intro h; have := congrArg List.length h; simp at this; omega)
          | cons a R =>
            obtain ⟨m, f⟩ := a
            obtain ⟨hpr, _, _⟩ := drop_pres hD
            have hntl := nt_len s s.size
            have hOl := OKi_last hD
            have hOn : (OKi s s.size ((nt s s.size).length - gk + 1)).length ≤ 1000000 := by rw [OKi_len]; omega
            have hg := LKe_get hD
            have hsu := LKe_succ hD
            rw [hOl] at hF2
            have hfk := (prtK_frm s s.size f).1
            have HEND := Lib.hid (end_any wr w1.heap.size s pv2 (.slice oa z oc) _ _ _ _ s.size true hF2 hg (by omega) (by rw [hfk]; exact pres_lt hpr) hOn)
            rw [hsu] at HEND
            have t0 : (0 : Int) < (z : Int) := by omega
            have HE := Lib.hid (show (nt s s.size).length - gk + 1 = (nt s s.size).length - (gk - 1) by omega)
            have hgg : gk - 1 < gk := by omega
            clear hF2 hzo hD hpr hntl hOl hOn hg hsu hfk
            go_wp2_with fail
            refine HEND.out.mono ?_
            rintro e w4 ⟨⟨v, rfl⟩, hT⟩
            go_wp2
            go_roundg (gk - 1)
            case measure => exact hgg
            case rel =>
              obtain ⟨pv3, ov3, h1, h2, h3⟩ := hT
              rw [HE.out] at h1
              obtain ⟨oa3, oc3, rfl⟩ := owns_slice h1.opens
              refine ⟨pv3, oa3, _, oc3, h1, fun k h => ?_, hB2.trans (h2.below hB2.size (fun k h => HK2.out k h)), by omega⟩
              rcases h3 k h with h | h
              · exact HK2.out k h
              · have := hB2.size; omega
end
end Go.Proofs.YtdjcidackkogjaaGreatDoor

/- The walk of the statement UndoTexts: it returns true, and what lay in memory before stays as it was: condition: each text of the edits at most 2^47 bytes, which the reach of every statement gives. -/
import Derived.Test.YtgdamapocomhkaaUnQ
import Derived.Test.YtgdamapocomhkaaUnU
import Derived.Test.YtgdamapocomhkaaUnB
namespace Go.Proofs.Ytgdamapocomhkaa
open Go.RowKit Go.Shelf
set_option linter.unusedVariables false

def EdRow (w : World) (b off len : Nat) (av : Nat → Int) (dv nv : Nat → ByteArray) : Prop :=
  b < w.heap.size ∧ ∀ i, i < len → w.cell? ⟨b, off + i * 3, none⟩ = some (.int .i64 (av i)) ∧ w.cell? ⟨b, off + i * 3 + 1, none⟩ = some (.string (dv i)) ∧ w.cell? ⟨b, off + i * 3 + 2, none⟩ = some (.string (nv i))
theorem EdRow.below {w w' : World} {b off len : Nat} {av : Nat → Int} {dv nv : Nat → ByteArray} (h : EdRow w b off len av dv nv) (hb : Below w.heap.size w w') : EdRow w' b off len av dv nv := by
  obtain ⟨hl, h⟩ := h
  have hz := hb.size
  obtain ⟨hc, _⟩ := bcell hb
  refine ⟨by omega, fun i hi => ?_⟩
  obtain ⟨h0, h1, h2⟩ := h i hi
  exact ⟨(hc _ _ hl).trans h0, (hc _ _ hl).trans h1, (hc _ _ hl).trans h2⟩
def BoRow (w : World) (b off len : Nat) (jv : Nat → Bool) : Prop := b < w.heap.size ∧ ∀ i, i < len → w.cell? ⟨b, off + i, none⟩ = some (.bool (jv i))
theorem BoRow.below {w w' : World} {b off len : Nat} {jv : Nat → Bool} (h : BoRow w b off len jv) (hb : Below w.heap.size w w') : BoRow w' b off len jv := by
  obtain ⟨hl, h⟩ := h
  have hz := hb.size
  obtain ⟨hc, _⟩ := bcell hb
  exact ⟨by omega, fun i hi => (hc _ _ hl).trans (h i hi)⟩

theorem refdo_I (c d n : ByteArray) (W : World) (a : Int) (hk : wrongN c a d n = 0) (hs : c.size ≤ 281474976710656) (hn : n.size ≤ 281474976710656) :
    Calls Try.prog 17 #[.string c, .agg #[.int .i64 a, .string d, .string n]] W fun e w' => e = .returned (.string (doB c a.toNat d n)) ∧ Below W.heap.size W w' := by
  obtain ⟨h0, h1, h2, h3⟩ := wrongN_0 hk
  obtain ⟨k, rfl⟩ := Int.eq_ofNat_of_zero_le h0
  have := h2.1
  exact refdo_any c d n k W (by simp at this; omega) hs hn
theorem do_I (t d n : ByteArray) (W : World) (a : Int) (hk : wrongN t a d n = 0) (hs : t.size ≤ 281474976710656) (hd : d.size ≤ 281474976710656) (hn : n.size ≤ 281474976710656) (r : ByteArray) (hr : doB t a.toNat d n = r) :
    Calls Try.prog 18 #[.string t, .agg #[.int .i64 a, .string d, .string n]] W fun e w' => e = .returned (.tuple #[.string r, .int .i64 0]) ∧ Below W.heap.size W w' := by
  obtain ⟨h0, h1, h2, h3⟩ := wrongN_0 hk
  obtain ⟨k, rfl⟩ := Int.eq_ofNat_of_zero_le h0
  rw [← hr]
  exact do_ok t d n W k hk hs hd hn
theorem run_size {l : List St} : ∀ {t : ByteArray}, okB t l → t.size ≤ 1048576 → (runB t l).size ≤ 1048576 := by
  induction l with
  | nil => intro t _ h; exact h
  | cons x l ih => intro t h _; exact ih h.2 (stepDo_size h.1).2
theorem jn_drew {w : World} {jb most : Nat} {sv : Value} {steps : List St} {done : Nat} (h : Jn w jb most sv steps done) : Jn w.drew jb most sv steps done := h.frm ((Frm.refl (fun _ => False) w).drew) (fun _ _ h => h)
section
variable (jb most : Nat) (sv : Value) (steps : List St) (w : World)
theorem undo_n (hJ : Jn w jb most sv steps 0) :
    Calls Try.prog 11 #[.pointer (some ⟨jb, 0, none⟩)] w fun e w' => e = .returned (.tuple #[.agg #[.int .i64 0, .string ⟨#[]⟩, .string ⟨#[]⟩, .int .i64 0, .int .i64 0], .bool false]) ∧ Below w.heap.size w w' := undo_none jb most sv steps w hJ
theorem redo_n (hJ : Jn w jb most sv steps steps.length) (hlen : steps.length ≤ 1000000) :
    Calls Try.prog 12 #[.pointer (some ⟨jb, 0, none⟩)] w fun e w' => e = .returned (.tuple #[.agg #[.int .i64 0, .string ⟨#[]⟩, .string ⟨#[]⟩, .int .i64 0, .int .i64 0], .bool false]) ∧ Below w.heap.size w w' := redo_none jb most sv steps w hJ hlen
theorem undo_y (done : Nat) (hJ : Jn w jb most sv steps (done + 1)) (hlen : steps.length ≤ 1000000) (x : St) (hx : steps[done]?.getD St.zero = x) :
    Calls Try.prog 11 #[.pointer (some ⟨jb, 0, none⟩)] w fun e w' => e = .returned (.tuple #[.agg #[.int .i64 x.pos, .string x.del, .string x.ins, .int .i64 x.ahead, .int .i64 x.behind], .bool true]) ∧ Jn w' jb most sv steps done ∧ Frm (· = jb) w w' := by
  have := undo_some jb most sv steps w done hJ hlen
  rw [hx] at this
  exact this
theorem redo_y (done : Nat) (hJ : Jn w jb most sv steps done) (hd : done < steps.length) (hlen : steps.length ≤ 1000000) (x : St) (hx : steps[done]?.getD St.zero = x) :
    Calls Try.prog 12 #[.pointer (some ⟨jb, 0, none⟩)] w fun e w' => e = .returned (.tuple #[.agg #[.int .i64 x.pos, .string x.del, .string x.ins, .int .i64 x.ahead, .int .i64 x.behind], .bool true]) ∧ Jn w' jb most sv steps (done + 1) ∧ Frm (· = jb) w w' := by
  have := redo_some jb most sv steps w done hJ hd hlen
  rw [hx] at this
  exact this
end
/-- Between two rounds of the first loop. -/
def RelA (s : ByteArray) (jb len : Nat) (w : World) (vs vi : Value) (wr : World) : Prop :=
  ∃ (i : Nat) (c : ByteArray) (steps : List St) (sv : Value), vs = .string c ∧ vi = .int .i64 i ∧ i ≤ len ∧ c.size ≤ 100 + 100 * i ∧ c = runB s steps ∧ okB s steps ∧ steps.length ≤ i ∧
    (∀ x ∈ steps, x.del.size ≤ 100 * i ∧ x.ins.size ≤ 100 * i) ∧ Jn wr jb 100 sv steps steps.length ∧ Below w.heap.size w wr ∧ (∀ k, sv.ownBlock = some k → w.heap.size ≤ k)

/-- Between two rounds of the second loop: so many steps are still done, and the text is the one behind these. -/
def RelB (s : ByteArray) (steps : List St) (sv : Value) (jb : Nat) (w : World) (vs vi : Value) (wr : World) : Prop :=
  ∃ (q d : Nat) (t : ByteArray), vs = .string t ∧ vi = .int .i64 q ∧ q + d = steps.length ∧ t = runB s (steps.take d) ∧ Jn wr jb 100 sv steps d ∧ Below w.heap.size w wr
/-- Between two rounds of the third loop: so many steps are done again. -/
def RelC (s : ByteArray) (steps : List St) (sv : Value) (jb : Nat) (w : World) (vs vi : Value) (wr : World) : Prop :=
  ∃ (d : Nat) (t : ByteArray), vs = .string t ∧ vi = .int .i64 d ∧ d ≤ steps.length ∧ t = runB s (steps.take d) ∧ Jn wr jb 100 sv steps d ∧ Below w.heap.size w wr
theorem relA_push {s : ByteArray} {jb len : Nat} {w : World} {i : Nat} {c : ByteArray} {steps : List St} {sv : Value} {S : St} (hi : i < len) (hl : len ≤ 20) (hjw : w.heap.size ≤ jb) (hc : c.size ≤ 100 + 100 * i) (hrun : c = runB s steps) (hok : okB s steps) (hsl : steps.length ≤ i)
    (hsm : ∀ x ∈ steps, x.del.size ≤ 100 * i ∧ x.ins.size ≤ 100 * i) (hown : ∀ k, sv.ownBlock = some k → w.heap.size ≤ k) (hg : stepGoes c S) (d1 : S.del.size ≤ 100) (d2 : S.ins.size ≤ 100)
    {join : Bool} {s' : St} {n : Nat} (hj : (if join = true then joinedSt steps steps.length S else (S, steps.length)) = (s', n)) {w3 w4 : World} {sv' : Value} (hB3 : Below w.heap.size w w3)
    (hJ4 : Jn w4 jb 100 sv' (pushL 100 steps n s') (pushL 100 steps n s').length) (F4 : Frm (foot jb sv) w3 w4) (own4 : ∀ k, sv'.ownBlock = some k → sv.ownBlock = some k ∨ w3.heap.size ≤ k) :
    RelA s jb len w (.string (stepDo c S)) (.int .i64 ((i : Int) + 1)) w4 := by
  have hn : n ≤ steps.length := by
    cases join
    · obtain ⟨_, rfl⟩ : S = s' ∧ steps.length = n := by simpa using hj
      exact Nat.le_refl _
    · have hz := joinedSt_le steps steps.length S
      have hj' : joinedSt steps steps.length S = (s', n) := by simpa using hj
      rw [hj'] at hz
      exact hz.1
  have hpl : pushL 100 steps n s' = steps.take n ++ [s'] := by unfold pushL; rw [if_neg (by omega)]
  have hll : (steps.take n ++ [s']).length = n + 1 := by simp; omega
  rw [hpl] at hJ4
  rw [hrun] at hg
  obtain ⟨p1, p2⟩ := push_chain hok hg hj
  have hz := stepDo_size hg
  rw [← hrun] at hz p2
  have hb4 : Below w.heap.size w w4 := hB3.trans (F4.below hB3.size (fun k hk => by
    rcases hk with rfl | hk
    · exact hjw
    · exact hown k hk))
  refine ⟨i + 1, stepDo c S, steps.take n ++ [s'], sv', rfl, by push_cast; rfl, hi, by omega, p2.symm, p1, by omega, fun x hx => ?_, hJ4, hb4, fun k hk => ?_⟩
  · have := push_small (Nat.le_refl _) hsm d1 d2 hj x hx
    omega
  · rcases own4 k hk with h | h
    · exact hown k h
    · exact Nat.le_trans hB3.size h

theorem new_hundred (w : World) : Calls Try.prog 8 #[.int .i64 100] w fun e w' => e = .returned (.pointer (some ⟨w.heap.size, 0, none⟩)) ∧ Jn w' w.heap.size 100 (.slice none 0 0) [] 0 ∧ Below w.heap.size w w' :=
  new_good 100 w (by omega) (by omega)

set_option maxRecDepth 100000 in
set_option maxHeartbeats 4000000 in
theorem texts_walk (av : Nat → Int) (dv nv : Nat → ByteArray) (jv : Nat → Bool) (s : ByteArray) (A A2 : Option Addr) (len cap len2 cap2 : Nat) (w : World) (hs : s.size ≤ 100) (hlen : len ≤ 20)
    (hrow : 0 < len → ∃ b off, A = some ⟨b, off, none⟩ ∧ EdRow w b off len av dv nv) (hrow2 : 0 < len2 → ∃ b off, A2 = some ⟨b, off, none⟩ ∧ BoRow w b off len2 jv)
    (hd : ∀ i, i < len → (dv i).size ≤ 140737488351232) (hn : ∀ i, i < len → (nv i).size ≤ 140737488351232) :
    Calls Try.prog 4 #[.string s, .slice A len cap, .slice A2 len2 cap2] w fun e w' => e = .returned (.bool true) ∧ Below w.heap.size w w' := by
  have HROW := Lib.hid hrow
  have HROW2 := Lib.hid hrow2
  have HD := Lib.hid hd
  have HN := Lib.hid hn
  clear hrow hrow2 hd hn
  have i1 : ¬ (100 : Int) < s.size := by omega
  have i2 : ¬ (20 : Int) < len := by omega
  go_enter Try.func4, Try.ntmps4
  go_wp2_with fail
  refine (awake_any _).mono ?_
  rintro e w1 ⟨rfl, hb1⟩
  go_wp2_with fail
  refine (new_hundred _).mono ?_
  rintro e w2 ⟨rfl, hJ2, hb2⟩
  obtain ⟨jb, hjb⟩ : ∃ jb, w1.heap.size = jb := ⟨_, rfl⟩
  have hB2 : Below w.heap.size w w2 := hb1.trans (hb2.mono hb1.size)
  have hjw : w.heap.size ≤ jb := by rw [← hjb]; exact hb1.size
  rw [hjb] at hJ2 ⊢
  clear hb1 hb2 hjb
  go_wp2
  go_loopw [8, 9] (fun vs vi wr => RelA s jb len w vs vi wr) (fun _ vi _ => len - (intOf vi).toNat)
  case atStart => exact ⟨0, s, [], .slice none 0 0, rfl, rfl, Nat.zero_le _, by omega, rfl, trivial, Nat.le_refl _, by simp, hJ2, hB2, by simp [Value.ownBlock]⟩
  case round =>
    obtain ⟨i, c, steps, sv, rfl, rfl, hi, hc, hrun, hok, hsl, hsm, hJ, hbel, hown⟩ := hrel
    have HRUN := Lib.hid hrun
    have HOK := Lib.hid hok
    have HSM := Lib.hid hsm
    have HJ := Lib.hid hJ
    have HOWN := Lib.hid hown
    clear hrun hok hsm hJ hown hJ2 hB2
    by_cases hlt : i < len
    · obtain ⟨b, off, rfl, hr0⟩ := HROW.out (by omega)
      have hrow := hr0.below hbel
      obtain ⟨g0, g1, g2⟩ := hrow.2 i hlt
      have hb := hrow.1
      have hx : (i : Int) < len := by omega
      have hz1 := hbel.size
      have HR0 := Lib.hid hr0
      clear hrow hr0
      by_cases l1 : (100 : Int) < (dv i).size
      · go_wp2
        go_ret
        exact ⟨rfl, hbel⟩
      · by_cases l2 : (100 : Int) < (nv i).size
        · go_wp2
          go_ret
          exact ⟨rfl, hbel⟩
        · by_cases k0 : wrongN c (av i) (dv i) (nv i) = 0
          · have HK := Lib.hid k0
            have hcs := (wrongN_0 k0)
            clear k0
            go_wp2_with fail
            refine (wrong_eq c (dv i) (nv i) _ (av i) 0 HK.out (by omega) (by omega)).mono ?_
            rintro e w1 ⟨rfl, hb1⟩
            have hB := hbel.trans (hb1.mono hz1)
            obtain ⟨h0, h1, h2⟩ := ((HR0.out.below hB).2 i hlt)
            clear g0 g1 g2
            go_wp2_with fail
            refine (refdo_I c (dv i) (nv i) _ (av i) HK.out (by omega) (by omega)).mono ?_
            rintro e w3 ⟨rfl, hb3⟩
            have hB3 := hB.trans (hb3.mono hB.size)
            obtain ⟨m0, m1, m2⟩ := ((HR0.out.below hB3).2 i hlt)
            have HJ3 := Lib.hid (jn_below (jn_below HJ.out hb1) hb3)
            clear hb1 hb3 h0 h1 h2
            generalize hgd : doB c (av i).toNat (dv i) (nv i) = c2 at *
            have HG := Lib.hid hgd
            clear hgd
            by_cases hj2 : i < len2
            · obtain ⟨b2, off2, rfl, hr2⟩ := HROW2.out (by omega)
              have m3 := (hr2.below hB3).2 i hj2
              have hx2 : (i : Int) < len2 := by omega
              go_wp2
              go_still_tail 16, (by kernel_rfl)
              change wpList _ _ _ _ _ w3.drew
              obtain ⟨s', n, hj⟩ : ∃ s' n, (if (jv i) = true then joinedSt steps steps.length ⟨av i, dv i, nv i, 0, 0⟩ else (⟨av i, dv i, nv i, 0, 0⟩, steps.length)) = (s', n) := ⟨_, _, rfl⟩
              have hJd : Jn w3.drew jb 100 sv steps steps.length := jn_drew HJ3.out
              have HJJ := Lib.hid hj
              have HJD := Lib.hid hJd
              clear hj hJd
              go_wp2_with (go_at_call 9; refine (push_core jb 100 sv steps w3.drew ⟨av i, dv i, nv i, 0, 0⟩ steps.length HJD.out (by omega) (by omega) (by omega) (fun x hx => by have := HSM.out x hx; omega) (by show (dv i).size ≤ _; omega) (by show (nv i).size ≤ _; omega) (jv i) s' n HJJ.out).mono ?_; rintro e w4 ⟨⟨v4, rfl⟩, sv', hJ4, F4, own4⟩)
              go_roundw
              case rel =>
                have hB3d : Below w.heap.size w w3.drew := hB3.drew
                have := relA_push (S := ⟨av i, dv i, nv i, 0, 0⟩) hlt hlen hjw hc HRUN.out HOK.out hsl HSM.out HOWN.out HK.out (by show (dv i).size ≤ _; omega) (by show (nv i).size ≤ _; omega) HJJ.out hB3d hJ4 F4 own4
                rw [show stepDo c ⟨av i, dv i, nv i, 0, 0⟩ = c2 from HG.out] at this
                exact this
              case measure => simp [intOf]; omega
            · have hx2 : ¬ (i : Int) < len2 := by omega
              go_wp2
              go_still_tail 16, (by kernel_rfl)
              change wpList _ _ _ _ _ w3.drew
              obtain ⟨s', n, hj⟩ : ∃ s' n, (if false = true then joinedSt steps steps.length ⟨av i, dv i, nv i, 0, 0⟩ else (⟨av i, dv i, nv i, 0, 0⟩, steps.length)) = (s', n) := ⟨_, _, rfl⟩
              have hJd : Jn w3.drew jb 100 sv steps steps.length := jn_drew HJ3.out
              have HJJ := Lib.hid hj
              have HJD := Lib.hid hJd
              clear hj hJd
              go_wp2_with (go_at_call 9; refine (push_core jb 100 sv steps w3.drew ⟨av i, dv i, nv i, 0, 0⟩ steps.length HJD.out (by omega) (by omega) (by omega) (fun x hx => by have := HSM.out x hx; omega) (by show (dv i).size ≤ _; omega) (by show (nv i).size ≤ _; omega) false s' n HJJ.out).mono ?_; rintro e w4 ⟨⟨v4, rfl⟩, sv', hJ4, F4, own4⟩)
              go_roundw
              case rel =>
                have hB3d : Below w.heap.size w w3.drew := hB3.drew
                have := relA_push (S := ⟨av i, dv i, nv i, 0, 0⟩) hlt hlen hjw hc HRUN.out HOK.out hsl HSM.out HOWN.out HK.out (by show (dv i).size ≤ _; omega) (by show (nv i).size ≤ _; omega) HJJ.out hB3d hJ4 F4 own4
                rw [show stepDo c ⟨av i, dv i, nv i, 0, 0⟩ = c2 from HG.out] at this
                exact this
              case measure => simp [intOf]; omega
          · have k1 : (wrongN c (av i) (dv i) (nv i) == 0) = false := by simpa using k0
            have k2 : ¬ wrongN c (av i) (dv i) (nv i) = 0 := k0
            go_wp2_with fail
            refine (wrong_any c (dv i) (nv i) _ (av i) (by omega) (by omega)).mono ?_
            rintro e w1 ⟨rfl, hb1⟩
            have hJ1 := jn_below HJ.out hb1
            have hB := hbel.trans (hb1.mono hz1)
            clear hb1 g0 g1 g2
            go_wp2
            go_roundw
            case rel => exact ⟨i + 1, c, steps, sv, rfl, by push_cast; rfl, hlt, by omega, HRUN.out, HOK.out, by omega, fun x hx => by have := HSM.out x hx; omega, hJ1, hB, HOWN.out⟩
            case measure => simp [intOf]; omega
    · obtain rfl : i = len := by omega
      have hx : ¬ (i : Int) < (i : Int) := by omega
      go_wp2
      go_loopw [10, 11] (fun vs vi wr => RelB s steps sv jb w vs vi wr) (fun _ vi _ => i + 1 - (intOf vi).toNat)
      case atStart => exact ⟨0, steps.length, c, rfl, rfl, by omega, by rw [List.take_length]; exact HRUN.out, HJ.out, hbel⟩
      case round =>
        obtain ⟨q, d, t, rfl, rfl, hq, ht, hJq, hbq⟩ := hrel
        have HT := Lib.hid ht
        clear ht
        have hx2 : (q : Int) ≤ (i : Int) := by omega
        cases d with
        | zero =>
          obtain rfl : t = s := by rw [HT.out]; rfl
          go_wp2_with (go_at_call 11; refine (undo_n jb 100 sv steps _ hJq).mono ?_; rintro e w5 ⟨rfl, hb5⟩)
          have hJ5 := jn_below (jn_below hJq hb5) ((Below.refl _ _).alloc (Nat.le_refl _) (.cells #[.int .i64 0, .string ⟨#[]⟩, .string ⟨#[]⟩, .int .i64 0, .int .i64 0] 31))
          have hb5' : Below w.heap.size w (w5.alloc (.cells #[.int .i64 0, .string ⟨#[]⟩, .string ⟨#[]⟩, .int .i64 0, .int .i64 0] 31)) := (hbq.trans (hb5.mono hbq.size)).alloc (Nat.le_trans hbq.size hb5.size) _
          clear hJq hbq hb5
          go_loopw [10, 16] (fun vs vi wr => RelC t steps sv jb w vs vi wr) (fun _ vi _ => i + 1 - (intOf vi).toNat)
          case atStart => exact ⟨0, t, rfl, rfl, Nat.zero_le _, by rw [List.take_zero]; rfl, hJ5, hb5'⟩
          case round =>
            obtain ⟨d, u, rfl, rfl, hdl, hu, hJr, hbr⟩ := hrel
            have HU := Lib.hid hu
            clear hu hJ5 hb5'
            have hx3 : (d : Int) ≤ (i : Int) := by omega
            by_cases hde : d = steps.length
            · subst hde
              have huc : u = c := by rw [HU.out, List.take_length]; exact HRUN.out.symm
              subst huc
              go_wp2_with (go_at_call 12; refine (redo_n jb 100 sv steps _ hJr (by omega)).mono ?_; rintro e w6 ⟨rfl, hb6⟩)
              go_ret
              exact ⟨rfl, (hbr.trans (hb6.mono hbr.size)).alloc (Nat.le_trans hbr.size hb6.size) _⟩
            · have hdl2 : d < steps.length := by omega
              obtain ⟨x, hx⟩ : ∃ x, steps[d]?.getD St.zero = x := ⟨_, rfl⟩
              have HX := Lib.hid hx
              have hsz := HSM.out x (by rw [← hx, List.getElem?_eq_getElem hdl2]; exact List.getElem_mem hdl2)
              have hst := step_at HOK.out hdl2
              rw [hx, ← HU.out] at hst
              obtain ⟨hg, hru⟩ := hst
              have hus : u.size ≤ 1048576 := by rw [HU.out]; exact run_size (okB_take HOK.out d) (by omega)
              obtain ⟨u', hu'⟩ : ∃ u', stepDo u x = u' := ⟨_, rfl⟩
              rw [hu'] at hru
              have HG := Lib.hid hg
              have HU' := Lib.hid hu'
              have HRU := Lib.hid hru
              clear hx hg hu' hru
              go_wp2_with (first
                | (go_at_call 12; refine (redo_y jb 100 sv steps _ d hJr hdl2 (by omega) x HX.out).mono ?_; rintro e w6 ⟨rfl, hJ6, F6⟩)
                | (go_at_call 18; refine (do_I u x.del x.ins _ x.pos HG.out (by omega) (by omega) (by omega) u' HU'.out).mono ?_; rintro e w7 ⟨rfl, hb7⟩))
              go_roundw
              case rel =>
                have hw6 : Below w.heap.size w w6 := hbr.trans (F6.below hbr.size (fun k hk => by omega))
                have ha6 := hw6.alloc hw6.size (.cells #[.int .i64 x.pos, .string x.del, .string x.ins, .int .i64 x.ahead, .int .i64 x.behind] 31)
                exact ⟨d + 1, u', rfl, by push_cast; rfl, hdl2, HRU.out.symm, jn_below (jn_below hJ6 ((Below.refl _ _).alloc (Nat.le_refl _) _)) hb7, ha6.trans (hb7.mono ha6.size)⟩
              case measure => simp [intOf]; omega
        | succ d =>
          obtain ⟨x, hx⟩ : ∃ x, steps[d]?.getD St.zero = x := ⟨_, rfl⟩
          have hdl : d < steps.length := by omega
          have HX := Lib.hid hx
          have hsz := HSM.out x (by rw [← hx, List.getElem?_eq_getElem hdl]; exact List.getElem_mem hdl)
          have hst := step_at HOK.out hdl
          rw [hx] at hst
          obtain ⟨hg, hru⟩ := hst
          obtain ⟨t', ht'⟩ : ∃ t', runB s (steps.take d) = t' := ⟨_, rfl⟩
          rw [ht'] at hg hru
          have hts : t'.size ≤ 1048576 := by rw [← ht']; exact run_size (okB_take HOK.out d) (by omega)
          obtain ⟨hk1, hk2⟩ := goes_back hg hts
          have htt : stepDo t' x = t := by rw [HT.out, hru]
          rw [htt] at hk1 hk2
          have htz : t.size ≤ 1048576 := by rw [← htt]; exact (stepDo_size hg).2
          have HK1 := Lib.hid hk1
          have HK2 := Lib.hid hk2
          have HT' := Lib.hid ht'
          clear hx hg hru hk1 hk2 htt ht'
          go_wp2_with (first
            | (go_at_call 11; refine (undo_y jb 100 sv steps _ d hJq (by omega) x HX.out).mono ?_; rintro e w5 ⟨rfl, hJ5, F5⟩)
            | (go_at_call 19; refine (inverse_any x.del x.ins _ x.pos).mono ?_; rintro e w6 ⟨rfl, hb6⟩)
            | (go_at_call 18; refine (do_I t x.ins x.del _ x.pos HK1.out (by omega) (by omega) (by omega) t' HK2.out).mono ?_; rintro e w7 ⟨rfl, hb7⟩))
          go_roundw
          case rel =>
            have hw5 : Below w.heap.size w w5 := hbq.trans (F5.below hbq.size (fun k hk => by omega))
            have ha5 := hw5.alloc hw5.size (.cells #[.int .i64 x.pos, .string x.del, .string x.ins, .int .i64 x.ahead, .int .i64 x.behind] 31)
            have ha6 := ha5.trans (hb6.mono ha5.size)
            exact ⟨q + 1, d, t', rfl, by push_cast; rfl, by omega, HT'.out.symm, jn_below (jn_below (jn_below hJ5 ((Below.refl _ _).alloc (Nat.le_refl _) _)) hb6) hb7, ha6.trans (hb7.mono ha6.size)⟩
          case measure => simp [intOf]; omega

set_option maxHeartbeats 1000000 in
theorem texts_large (s : ByteArray) (A A2 : Option Addr) (len cap len2 cap2 : Nat) (w : World) (h : 100 < s.size ∨ 20 < len) :
    Calls Try.prog 4 #[.string s, .slice A len cap, .slice A2 len2 cap2] w fun e w' => e = .returned (.bool true) ∧ Below w.heap.size w w' := by
  go_enter Try.func4, Try.ntmps4
  go_wp2_with fail
  refine (awake_any _).mono ?_
  rintro e w1 ⟨rfl, hb1⟩
  by_cases h1 : (100 : Int) < s.size
  · go_wp2
    go_ret
    exact ⟨rfl, hb1⟩
  · have h3 : (20 : Int) < len := by omega
    go_wp2
    go_ret
    exact ⟨rfl, hb1⟩
end Go.Proofs.Ytgdamapocomhkaa

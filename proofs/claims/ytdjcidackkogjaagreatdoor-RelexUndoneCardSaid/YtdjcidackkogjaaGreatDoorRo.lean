/- The statement RelexFollows of layer 10 (relex): what the law returns, whatever its arguments hold. Condition: the program's table of operators lies as start-up lays it.
The statement RelexHistory of layer 10 (relex): what the law returns, whatever its arguments hold. Condition: the program's table of operators lies as start-up lays it.
The statement RelexUndone of layer 10 (relex): what the law returns, whatever its arguments hold. Condition: the program's table of operators lies as start-up lays it. -/
import Derived.Test.YtdjcidackkogjaaGreatDoorRk
import Derived.Test.YtdjcidackkogjaaGreatDoorRj
namespace Go.Proofs.YtdjcidackkogjaaGreatDoor
open Go Go.RowKit
set_option linter.unusedVariables false
set_option linter.unusedSectionVars false

theorem stepD_size {s d n : ByteArray} {a : Int} (hn : n.size ≤ 60) : (stepD s a d n).size ≤ s.size + 60 := by
  unfold stepD
  split
  · rename_i h
    have hf := (wrongN_0 h).2.2.1.1
    rw [doB_size hf]
    omega
  · omega
end Go.Proofs.YtdjcidackkogjaaGreatDoor
namespace Go.Proofs.YtdjcidackkogjaaGreatDoor
open Go Go.RowKit
set_option linter.unusedVariables false
set_option linter.unusedSectionVars false

def AvH (ba bb k : Nat) : Prop := k = ba ∨ k = bb
def HiL (w : World) (ba bb n m : Nat) (s : ByteArray) (vi : Value) (wr : World) : Prop :=
  ∃ (i : Nat) (t : ByteArray), vi = .int .i64 (i : Int) ∧ i ≤ n ∧ t.size ≤ m + 60 * i ∧ DocW wr ba (AvH ba bb) t ∧ DocW wr bb (AvH ba bb) s ∧ Below w.heap.size w wr
theorem dw_text (w : World) (b : Nat) (Av : Nat → Prop) (s : ByteArray) (hD : DocW w b Av s) : Calls Tryz.prog 25 #[.pointer (some ⟨b, 0, none⟩)] w fun e w' => e = .returned (.string s) ∧ w' = w := by
  obtain ⟨I, E, D, g, ni, ci, od, nd, cd, hV, _⟩ := hD
  exact dtext_any w b s I E D _ ni ci od nd cd hV
theorem dw_tokens (w : World) (b : Nat) (Av : Nat → Prop) (s : ByteArray) (hD : DocW w b Av s) : Calls Tryz.prog 16 #[.pointer (some ⟨b, 0, none⟩)] w fun e w' => ∃ z c, e = .returned (.slice (some ⟨z, 0, none⟩) (TKs s).length c) ∧ RdK w' (some ⟨z, 0, none⟩) (TKs s).length ((TKs s).map Prod.fst) ∧ w.heap.size ≤ z ∧ Below w.heap.size w w' := by
  obtain ⟨I, E, D, g, ni, ci, od, nd, cd, hV, _⟩ := hD
  have h1 := hV.path.whole.1
  have h2 := hV.its.len
  have h3 : (TKs s).length = ni := by rw [h2]; simpa using congrArg List.length h1
  rw [h3, h1]
  refine (dtokens_any w b s I E D _ ni ci od nd cd hV).mono ?_
  rintro e w' ⟨z, c, h1, h2, h3, h4, _⟩
  exact ⟨z, c, h1, h2, h3, h4⟩
theorem dw_lexing (w : World) (b : Nat) (Av : Nat → Prop) (s : ByteArray) (hD : DocW w b Av s) : Calls Tryz.prog 26 #[.pointer (some ⟨b, 0, none⟩)] w fun e w' => ∃ oa c, e = .returned (.agg #[.int .i64 ((lstX (TKs s)).await : Int), .slice oa (lstX (TKs s)).pend.length c, .bool (lstX (TKs s)).body]) ∧ RdD w' oa (lstX (TKs s)).pend.length (lstX (TKs s)).pend ∧ Below w.heap.size w w' := by
  obtain ⟨I, E, D, g, ni, ci, od, nd, cd, hV, _⟩ := hD
  rw [hV.path.whole.2]
  refine (dlexing_any w b s I E D _ ni ci od nd cd hV).mono ?_
  rintro e w' ⟨o2, n2, c2, h1, h2, h3⟩
  obtain ⟨o3, c3, e3, _⟩ := h2.cap
  cases e3
  exact ⟨o2, c2, h1, RdD.of_src h2.src rfl, h3⟩
theorem dw_sizes (w : World) (b : Nat) (Av : Nat → Prop) (s : ByteArray) (hD : DocW w b Av s) : (TKs s).length ≤ 1000000 ∧ (lstX (TKs s)).pend.length ≤ 1000000 := by
  obtain ⟨I, E, D, g, ni, ci, od, nd, cd, hV, _⟩ := hD
  have h1 := hV.path.whole
  have h2 := doc_len w b s I E D _ ni ci od nd cd hV
  have h3 := hV.sz
  have h4 : (TKs s).length = I.length := by simpa using congrArg List.length h1.1
  rw [h1.2, mkL_len (by rw [hV.en]; exact Nat.le_refl _)]
  have h5 := hV.path.en_le
  have h6 : Mk.zero.en = 0 := rfl
  omega
theorem diff_brings {s t : ByteArray} {h u : Nat} (hd : IsDiff s t h u) (ht : t.size ≤ 1048576) : wrongN s (h : Int) (s.extract h (s.size - u)) (t.extract h (t.size - u)) = 0 ∧ stepD s (h : Int) (s.extract h (s.size - u)) (t.extract h (t.size - u)) = t := by
  obtain ⟨hf, he⟩ := hd.brings
  have hz := doB_size (n := t.extract h (t.size - u)) hf.1
  rw [he] at hz
  have hw : wrongN s (h : Int) (s.extract h (s.size - u)) (t.extract h (t.size - u)) = 0 := wrongN_mk0 (by omega) (by have := hf.1; omega) (by simpa using hf) (by have := hf.1; omega)
  refine ⟨hw, ?_⟩
  unfold stepD
  rw [if_pos hw]
  simpa using he
set_option maxRecDepth 100000 in
set_option maxHeartbeats 8000000 in
theorem history_law (w : World) (hT : Tx w) (s : ByteArray) (hz : s.size ≤ 9223372036854775807) (oa : Option Addr) (n c : Nat) (av : Nat → Int) (dv nv : Nat → ByteArray) (hR : RdE w oa n av dv nv) : Calls Tryz.prog 7 #[.string s, .slice oa n c] w fun e w' => e = .returned (.bool true) ∧ Below w.heap.size w w' := by
  have HT := Lib.hid hT
  have HR := Lib.hid hR
  clear hT hR
  go_enter Tryz.func7, Tryz.ntmps7
  go_wp2_with fail
  refine (awake10_any w HT.out).mono ?_
  rintro e w1 ⟨rfl, hb1⟩
  have HB1 := Lib.hid hb1
  clear hb1
  by_cases h100 : (100 : Int) < (s.size : Int)
  · go_wp2
    go_ret
    exact ⟨rfl, HB1.out⟩
  · go_wp2_with fail
    refine (short10_any w1 oa n c av dv nv (HR.out.below HB1.out) 8 (by omega)).mono ?_
    rintro e w2 ⟨B, rfl, hSh, rfl⟩
    cases B
    · go_wp2
      go_ret
      exact ⟨rfl, HB1.out⟩
    · obtain ⟨hn8, h60⟩ := hSh rfl
      have H60 := Lib.hid h60
      have HN8 := Lib.hid hn8
      clear hSh h60 hn8
      have HNW := Lib.hid (dnew_any w2 (HT.out.below HB1.out HT.out.1) s (by omega))
      obtain ⟨ba, hb⟩ : ∃ b, w2.heap.size = b := ⟨_, rfl⟩
      rw [hb] at HNW
      have HB := Lib.hid hb
      clear hb
      go_wp2_with fail
      refine (HNW.out).mono ?_
      rintro e w3 ⟨rfl, hD, hb3⟩
      have hD3 := hD (fun k => k = ba) (fun k hk => by omega)
      have hB3 : Below w.heap.size w w3 := HB1.out.trans (hb3.mono (by have := HB.out; have := HB1.out.size; omega))
      have HNW2 := Lib.hid (dnew_any w3 (HT.out.below hB3 HT.out.1) s (by omega))
      obtain ⟨bb, hb⟩ : ∃ b, w3.heap.size = b := ⟨_, rfl⟩
      rw [hb] at HNW2
      have HBB := Lib.hid (And.intro hb hD3.lt)
      have HD3 := Lib.hid (hD3.widen (Aw := AvH ba bb) (fun k hk h => by rcases h with h | h <;> omega))
      have HB3 := Lib.hid hB3
      clear hD hb3 hD3 hB3 hb
      go_wp2_with fail
      refine (HNW2.out).mono ?_
      rintro e w4 ⟨rfl, hD, hb4⟩
      have hb4' : Below w3.heap.size w3 w4 := by rw [HBB.out.1]; exact hb4
      have HDA := Lib.hid (HD3.out.below hb4')
      have HDB := Lib.hid (hD (AvH ba bb) (fun k hk => by rcases hk with h | h <;> (have := HBB.out; omega)))
      have HB4 := Lib.hid (HB3.out.trans (hb4'.mono HB3.out.size))
      clear hD hb4 hb4'
      have hab : (ba == bb) = false := by have := HBB.out; simp; omega
      go_wp2_with fail
      go_loopw [9] (fun vi wr => HiL w ba bb n 100 s vi wr) (fun vi _ => n - (intOf vi).toNat)
      case atStart => exact ⟨0, s, rfl, Nat.zero_le _, by omega, HDA.out, HDB.out, HB4.out⟩
      case round =>
        obtain ⟨i, t, rfl, hi, ht, hDa, hDb, hB⟩ := hrel
        have HDa := Lib.hid hDa
        have HDb := Lib.hid hDb
        have HBR := Lib.hid hB
        have hba0 : 0 < ba := by have := HT.out.1; have := HB.out; have := HB1.out.size; omega
        have h8 := HN8.out
        clear hDa hDb hB
        by_cases hlt : i < n
        · have hE := HR.out.below HBR.out
          obtain ⟨eb, eo, rfl, hel, c0, c1, c2⟩ := hE i hlt
          have hz6 := H60.out i hlt
          have q0 : (0 : Int) ≤ (i : Int) := by omega
          have q1 : (i : Int) < (n : Int) := by omega
          have hst := stepD_size (s := t) (d := dv i) (a := av i) hz6.2
          have HAP := Lib.hid (apply_dw wr ba (AvH ba bb) t HDa.out hba0 (HT.out.below HBR.out HT.out.1) (fun k hk => by rcases hk with h | h <;> (have := HDa.out.lt; have := HDb.out.lt; omega)) (av i) (dv i) (nv i) (by omega) (by omega) (by omega))
          clear hE
          go_wp2_with fail
          refine (HAP.out).mono ?_
          rintro e w5 ⟨h, tl, rfl, hbad, hD5, hF5⟩
          have hbw : w.heap.size ≤ ba := by have := HB.out; have := HB1.out.size; omega
          have hB5 : Below w.heap.size w w5 := HBR.out.trans (hF5.below HBR.out.size (fun j hj => by omega))
          have HD5 := Lib.hid hD5
          have HE5 := Lib.hid (HDb.out.frm hF5 (show ¬ bb = ba by have := HBB.out; omega) (fun k _ hk => .inl hk))
          have HB5 := Lib.hid hB5
          clear hbad hD5 hF5 hB5 c0 c1 c2
          go_wp2
          go_roundw
          case rel => exact ⟨i + 1, _, by go_num, by omega, by omega, HD5.out, HE5.out, HB5.out⟩
          case measure => simp [intOf]; omega
        · have q1 : ¬ (i : Int) < (n : Int) := by omega
          go_wp2_with fail
          refine (dw_text wr ba _ t HDa.out).mono ?_
          rintro e w5 ⟨rfl, rfl⟩
          go_wp2_with fail
          refine (diff_any s t w5 (by omega) (by omega)).mono ?_
          rintro e w6 ⟨h, u, hd, rfl, hb6⟩
          obtain ⟨hw0, hst⟩ := diff_brings hd (by omega)
          have hes : (s.extract h (s.size - u)).size ≤ s.size := by rw [ByteArray.size_extract]; omega
          have het : (t.extract h (t.size - u)).size ≤ t.size := by rw [ByteArray.size_extract]; omega
          generalize s.extract h (s.size - u) = d1 at *
          generalize t.extract h (t.size - u) = n1 at *
          have HDa6 := Lib.hid (HDa.out.below hb6)
          have HDb6 := Lib.hid (HDb.out.below hb6)
          have HB6 := Lib.hid (HBR.out.trans (hb6.mono HBR.out.size))
          have HAP := Lib.hid (apply_dw w6 bb (AvH ba bb) s HDb6.out (by have := HBB.out; omega) (HT.out.below HB6.out HT.out.1) (fun k hk => by rcases hk with h | h <;> (have := HDa6.out.lt; have := HDb6.out.lt; omega)) (h : Int) d1 n1 (by omega) (by omega) (by rw [hst]; omega))
          rw [hst] at HAP
          clear hst hw0 hd hb6
          go_wp2_with fail
          refine (HAP.out).mono ?_
          rintro e w7 ⟨h7, t7, rfl, _, hD7, hF7⟩
          have hbw : w.heap.size ≤ bb := by have := HB.out; have := HB1.out.size; have := HBB.out; omega
          have HB7 := Lib.hid (HB6.out.trans (hF7.below HB6.out.size (fun j hj => by omega)))
          have HDa7 := Lib.hid (HDa6.out.frm hF7 (show ¬ ba = bb by have := HBB.out; omega) (fun k _ hk => .inr hk))
          have HDb7 := Lib.hid hD7
          have HZZ := Lib.hid (dw_sizes w7 bb _ t hD7)
          clear hD7 hF7
          go_wp2_with fail
          refine (dw_text w7 ba _ t HDa7.out).mono ?_
          rintro e w8 ⟨rfl, rfl⟩
          go_wp2_with fail
          refine (dw_text w8 bb _ t HDb7.out).mono ?_
          rintro e w9 ⟨rfl, rfl⟩
          have hbs := bs_eqb t t
          simp only [decide_true] at hbs
          obtain ⟨NT, hNT⟩ : ∃ k, (TKs t).length = k := ⟨_, rfl⟩
          obtain ⟨X, hX⟩ : ∃ x, lstX (TKs t) = x := ⟨_, rfl⟩
          have HTA := Lib.hid (fun W hW => dw_tokens W ba (AvH ba bb) t hW)
          have HTB := Lib.hid (fun W hW => dw_tokens W bb (AvH ba bb) t hW)
          have HLA := Lib.hid (fun W hW => dw_lexing W ba (AvH ba bb) t hW)
          have HLB := Lib.hid (fun W hW => dw_lexing W bb (AvH ba bb) t hW)
          rw [hNT] at HTA HTB HZZ
          rw [hX] at HLA HLB HZZ
          clear hNT hX
          go_wp2_with fail
          refine (HTA.out w9 HDa7.out).mono ?_
          rintro e w10 ⟨z1, c1, rfl, hr1, _, hb10⟩
          have HDa8 := Lib.hid (HDa7.out.below hb10)
          have HDb8 := Lib.hid (HDb7.out.below hb10)
          have HB10 := Lib.hid (HB7.out.trans (hb10.mono HB7.out.size))
          have HR1 := Lib.hid hr1
          clear hr1 hb10
          go_wp2_with fail
          refine (HTB.out w10 HDb8.out).mono ?_
          rintro e w11 ⟨z2, c2, rfl, hr2, _, hb11⟩
          have HDa9 := Lib.hid (HDa8.out.below hb11)
          have HDb9 := Lib.hid (HDb8.out.below hb11)
          have HB11 := Lib.hid (HB10.out.trans (hb11.mono HB10.out.size))
          have HSM := Lib.hid (sameT_any w11 _ _ _ NT c1 c2 (HR1.out.below hb11) hr2 HZZ.out.1)
          clear hr2 hb11
          go_wp2_with fail
          refine (HSM.out).mono ?_
          rintro e w12 ⟨rfl, hb12⟩
          have HDa10 := Lib.hid (HDa9.out.below hb12)
          have HDb10 := Lib.hid (HDb9.out.below hb12)
          have HB12 := Lib.hid (HB11.out.trans (hb12.mono HB11.out.size))
          clear hb12
          go_wp2_with fail
          refine (HLA.out w12 HDa10.out).mono ?_
          rintro e w13 ⟨o1, c3, rfl, hr3, hb13⟩
          have HDb11 := Lib.hid (HDb10.out.below hb13)
          have HB13 := Lib.hid (HB12.out.trans (hb13.mono HB12.out.size))
          have HR3 := Lib.hid hr3
          clear hr3 hb13
          go_wp2_with fail
          refine (HLB.out w13 HDb11.out).mono ?_
          rintro e w14 ⟨o2, c4, rfl, hr4, hb14⟩
          have HB14 := Lib.hid (HB13.out.trans (hb14.mono HB13.out.size))
          have HSX := Lib.hid (rsame_any w14 X.pend X.pend o1 o2 _ _ c3 c4 (HR3.out.below hb14) hr4 HZZ.out.2 HZZ.out.2 X.await X.await X.body X.body)
          rw [sameX_refl] at HSX
          clear hr4 hb14
          go_wp2_with fail
          refine (HSX.out).mono ?_
          rintro e w15 ⟨rfl, hb15⟩
          have HB15 := Lib.hid (HB14.out.trans (hb15.mono HB14.out.size))
          clear hb15
          go_wp2
          go_ret
          exact ⟨rfl, HB15.out⟩
end Go.Proofs.YtdjcidackkogjaaGreatDoor
namespace Go.Proofs.YtdjcidackkogjaaGreatDoor
open Go Go.RowKit
set_option linter.unusedVariables false
set_option linter.unusedSectionVars false

theorem undo_goes {s d n : ByteArray} {a : Int} (h : wrongN s a d n = 0) (hs : s.size ≤ 1048576) : wrongN (stepD s a d n) a n d = 0 ∧ stepD (stepD s a d n) a n d = s := by
  have hst : stepD s a d n = doB s a.toNat d n := if_pos h
  rw [hst]
  obtain ⟨h1, h2, h3, h4⟩ := wrongN_0 h
  obtain ⟨i1, i2⟩ := inverse_brings (n := n) h3
  have hz := doB_size (n := n) h3.1
  have hw : wrongN (doB s a.toNat d n) a n d = 0 := wrongN_mk0 h1 (by have := i1.1; omega) i1 (by have := h3.1; omega)
  refine ⟨hw, ?_⟩
  unfold stepD
  rw [if_pos hw]
  exact i2
theorem RdK.ne {W W' : World} {z b n : Nat} {l : List Tk} (h : RdK W (some ⟨z, 0, none⟩) n l) (hz : z ≠ b) (hf : Frm (fun k => k = b) W W') : RdK W' (some ⟨z, 0, none⟩) n l :=
  ⟨h.len, fun j d hj => by
    obtain ⟨b', off, h1, h2, h3, h4, h5, h6⟩ := h.cells j d hj
    cases h1
    have e : ∀ o, W'.cell? ⟨z, o, none⟩ = W.cell? ⟨z, o, none⟩ := fun o => hf.cell (a := ⟨z, o, none⟩) h2 hz
    exact ⟨z, 0, rfl, Nat.lt_of_lt_of_le h2 hf.size, (e _).trans h3, (e _).trans h4, (e _).trans h5, (e _).trans h6⟩⟩
theorem RdD.ne {W W' : World} {b : Nat} {Av : Nat → Prop} {s : ByteArray} {oa : Option Addr} {n : Nat} {l : List Dl} (h : RdD W oa n l) (hD : DocW W b Av s) (hf : Frm (fun k => k = b) W W') : RdD W' oa n l :=
  ⟨h.len, fun j d hj => by
    obtain ⟨b', off, h1, h2, h3, h4⟩ := h.cells j d hj
    have hne : ¬ b' = b := fun e => by
      subst e
      obtain ⟨I, E, D, g, ni, ci, od, nd, cd, hV, _⟩ := hD
      have k := hV.blk
      rw [k.cell] at h3 h4
      generalize off + j * 2 = i at h3 h4
      match i, h3, h4 with
      | 0, _, h4 => cases h4
      | 1, h3, _ => cases h3
      | 2, h3, _ => cases h3
      | 3, h3, _ => cases h3
      | 4, h3, _ => cases h3
      | 5, h3, _ => cases h3
      | 6, h3, _ => cases h3
      | i + 7, h3, _ => simp at h3
    exact ⟨b', off, h1, Nat.lt_of_lt_of_le h2 hf.size, (hf.cell (a := ⟨b', _, none⟩) h2 hne).trans h3, (hf.cell (a := ⟨b', _, none⟩) h2 hne).trans h4⟩⟩
set_option maxRecDepth 100000 in
set_option maxHeartbeats 8000000 in
theorem undone_law (w : World) (hT : Tx w) (s : ByteArray) (hz : s.size ≤ 9223372036854775807) (a : Int) (d n : ByteArray) : Calls Tryz.prog 8 #[.string s, .agg #[.int .i64 a, .string d, .string n]] w fun e w' => e = .returned (.bool true) ∧ Below w.heap.size w w' := by
  obtain ⟨z, hzz⟩ : ∃ z, w.heap.size = z := ⟨_, rfl⟩
  obtain ⟨W0, hW0⟩ : ∃ X, w.alloc (.cells #[.int .i64 a, .string d, .string n] 35) = X := ⟨_, rfl⟩
  have hB0 : Below w.heap.size w W0 := by rw [← hW0]; exact (Below.refl _ _).alloc (Nat.le_refl _) _
  have kz : Blk W0 z #[.int .i64 a, .string d, .string n] 35 := by rw [← hW0, ← hzz]; exact Blk.new _ _ _
  have HT := Lib.hid (And.intro hT (hT.b hB0))
  have HB0 := Lib.hid hB0
  have HKZ := Lib.hid kz
  clear hT hB0 kz
  go_enter Tryz.func8, Tryz.ntmps8
  go_wp2_with fail
  have HW0 := Lib.hid (And.intro hW0 hzz)
  clear hW0 hzz
  refine (awake10_any W0 HT.out.2).mono ?_
  rintro e w1 ⟨rfl, hb1⟩
  have HB1 := Lib.hid (HB0.out.trans (hb1.mono HB0.out.size))
  have kz1 := HKZ.out.below hb1
  have c0 := kz1.cell 0
  have c1 := kz1.cell 1
  have c2 := kz1.cell 2
  have HKZ1 := Lib.hid kz1
  clear hb1 kz1
  by_cases h100 : (100 : Int) < (s.size : Int)
  · go_wp2
    go_ret
    exact ⟨rfl, HB1.out⟩
  · by_cases hd : (60 : Int) < (d.size : Int)
    · go_wp2
      go_ret
      exact ⟨rfl, HB1.out⟩
    · by_cases hn : (60 : Int) < (n.size : Int)
      · go_wp2
        go_ret
        exact ⟨rfl, HB1.out⟩
      · have HNW := Lib.hid (dnew_any w1 (HT.out.1.below HB1.out HT.out.1.1) s (by omega))
        obtain ⟨b, hb⟩ : ∃ b, w1.heap.size = b := ⟨_, rfl⟩
        rw [hb] at HNW
        have HB := Lib.hid hb
        clear hb
        go_wp2_with fail
        refine (HNW.out).mono ?_
        rintro e w3 ⟨rfl, hD, hb3⟩
        have hb3' : Below w1.heap.size w1 w3 := by rw [HB.out]; exact hb3
        have HD3 := Lib.hid (hD (fun k => k = b) (fun k hk => by omega))
        have HB3 := Lib.hid (HB1.out.trans (hb3'.mono HB1.out.size))
        have HKZ3 := Lib.hid (HKZ1.out.below hb3')
        have HZZ := Lib.hid (dw_sizes w3 b _ s HD3.out)
        clear hD hb3 hb3' c0 c1 c2
        obtain ⟨NT, hNT⟩ : ∃ k, (TKs s).length = k := ⟨_, rfl⟩
        obtain ⟨X, hX⟩ : ∃ x, lstX (TKs s) = x := ⟨_, rfl⟩
        have HTA := Lib.hid (fun W hW => dw_tokens W b (fun k => k = b) s hW)
        have HLA := Lib.hid (fun W hW => dw_lexing W b (fun k => k = b) s hW)
        rw [hNT] at HTA HZZ
        rw [hX] at HLA HZZ
        clear hNT hX
        go_wp2_with fail
        refine (HTA.out w3 HD3.out).mono ?_
        rintro e w4 ⟨z1, c1, rfl, hr1, hz1, hb4⟩
        have HD4 := Lib.hid (HD3.out.below hb4)
        have HB4 := Lib.hid (HB3.out.trans (hb4.mono HB3.out.size))
        have HKZ4 := Lib.hid (HKZ3.out.below hb4)
        have HR1 := Lib.hid hr1
        clear hr1 hb4
        go_wp2_with fail
        refine (HLA.out w4 HD4.out).mono ?_
        rintro e w5 ⟨o1, c3, rfl, hr3, hb5⟩
        have HD5 := Lib.hid (HD4.out.below hb5)
        have HB5 := Lib.hid (HB4.out.trans (hb5.mono HB4.out.size))
        have HKZ5 := Lib.hid (HKZ4.out.below hb5)
        have HR2 := Lib.hid (HR1.out.below hb5)
        have HR3 := Lib.hid hr3
        clear hr3 hb5
        go_upto_region 10 with fail
        have hal := (Below.refl w5.heap.size w5).alloc (Nat.le_refl _) (.cells #[.int .i64 (X.await : Int), .slice o1 X.pend.length c3, .bool X.body] 50)
        have kx := Blk.new w5 #[.int .i64 (X.await : Int), .slice o1 X.pend.length c3, .bool X.body] 50
        obtain ⟨W6, hW6⟩ : ∃ Y, w5.alloc (.cells #[.int .i64 (X.await : Int), .slice o1 X.pend.length c3, .bool X.body] 50) = Y := ⟨_, rfl⟩
        obtain ⟨x, hx⟩ : ∃ y, w5.heap.size = y := ⟨_, rfl⟩
        rw [hW6] at hal kx ⊢
        rw [hx] at kx ⊢
        have HD6 := Lib.hid (HD5.out.below hal)
        have HB6 := Lib.hid (HB5.out.trans (hal.mono HB5.out.size))
        have HKZ6 := Lib.hid (HKZ5.out.below hal)
        have HRR := Lib.hid (And.intro (HR2.out.below hal) (And.intro (HR3.out.below hal) (And.intro kx (show b < x by have := HD5.out.lt; omega))))
        have hzb : z < b := by have := HW0.out.2; have := HB.out; have := HB1.out.size; have := HKZ1.out.lt; omega
        have c0 := HKZ6.out.cell 0
        have c1' := HKZ6.out.cell 1
        have c2 := HKZ6.out.cell 2
        have hst := stepD_size (s := s) (d := d) (a := a) (n := n) (by omega)
        have hT6 := HT.out.1.below HB6.out HT.out.1.1
        have HAP := Lib.hid (apply_dw W6 b (fun k => k = b) s HD6.out (by omega) hT6 (fun k hk => by have := HD6.out.lt; omega) a d n (by omega) (by omega) (by omega))
        clear hal kx hW6 hx
        go_wp2_with fail
        refine (HAP.out).mono ?_
        rintro e w7 ⟨h, tl, rfl, _, hD7, hF7⟩
        have hal := (Below.refl w7.heap.size w7).alloc (Nat.le_refl _) (.cells #[.int .i64 (h : Int), .int .i64 (tl : Int)] 31)
        obtain ⟨k, hk⟩ : ∃ k, wrongN s a d n = k := ⟨_, rfl⟩
        have HK := Lib.hid hk
        have hB7 : Below w.heap.size w w7 := HB6.out.trans (hF7.below HB6.out.size (fun j hj => by have := HW0.out.2; omega))
        have kz7 := HKZ6.out.frm hF7 (show ¬ z = b by omega)
        have hzx : z1 ≠ b := by have := HD3.out.lt; omega
        rw [hk]
        clear c0 c1' c2 hk
        go_upto_if 52 with fail
        obtain ⟨W8, hW8⟩ : ∃ Y, w7.alloc (.cells #[.int .i64 (h : Int), .int .i64 (tl : Int)] 31) = Y := ⟨_, rfl⟩
        rw [hW8] at hal ⊢
        have HD8 := Lib.hid (hD7.below hal)
        have HB8 := Lib.hid (hB7.trans (hal.mono hB7.size))
        have kz8 := kz7.below hal
        have c0 := kz8.cell 0
        have c1' := kz8.cell 1
        have c2 := kz8.cell 2
        have HF8 := Lib.hid (hF7.trans (Frm.of_below (p := fun j => j = b) hal) (fun _ _ h => h))
        have hT8 := HT.out.1.below HB8.out HT.out.1.1
        have HT8 := Lib.hid hT8
        clear hal hW8 kz8 kz7 hD7 hF7 hB7 hT8 hT6
        go_cut [] from 52 to 61 (fun wx => DocW wx b (fun k => k = b) s ∧ Frm (fun j => j = b) W8 wx)
        case first =>
          by_cases hk0 : k = 0
          · subst hk0
            obtain ⟨hu1, hu2⟩ := undo_goes HK.out (by omega)
            obtain ⟨t, ht⟩ : ∃ t, stepD s a d n = t := ⟨_, rfl⟩
            have HD8' := HD8.out
            rw [ht] at hu1 hu2 hst HD8'
            have HU := Lib.hid (And.intro hu1 (And.intro hu2 HD8'))
            clear hu1 hu2 ht HD8'
            go_wp2_with fail
            refine (inverse_any d n W8 a).mono ?_
            rintro e w9 ⟨rfl, hb9⟩
            have HD9 := Lib.hid (HU.out.2.2.below hb9)
            have HF9 := Lib.hid (Frm.of_below (p := fun j => j = b) hb9)
            have HAP2 := Lib.hid (apply_dw w9 b (fun k => k = b) t HD9.out (by omega) (HT8.out.b hb9) (fun k hk => by have := HD9.out.lt; omega) a n d (by omega) (by omega) (by rw [HU.out.2.1]; omega))
            rw [HU.out.1, HU.out.2.1] at HAP2
            clear hb9
            go_wp2_with fail
            refine (HAP2.out).mono ?_
            rintro e w10 ⟨h2, t2, rfl, _, hD10, hF10⟩
            have hal := (Below.refl w10.heap.size w10).alloc (Nat.le_refl _) (.cells #[.int .i64 (h2 : Int), .int .i64 (t2 : Int)] 31)
            have HEND := Lib.hid (And.intro (hD10.below hal) ((HF9.out.trans hF10 (fun _ _ h => h)).trans (Frm.of_below (p := fun j => j = b) hal) (fun _ _ h => h)))
            clear hD10 hF10 hal c0 c1' c2
            go_wp2
            go_meet
            case rel => exact HEND.out
          · have hk0' : (k == 0) = false := by simpa using hk0
            have hdo : stepD s a d n = s := if_neg (by rw [HK.out]; exact hk0)
            have HD8' := HD8.out
            rw [hdo] at HD8'
            have HU := Lib.hid HD8'
            clear HD8' hdo c0 c1' c2
            go_wp2
            go_meet
            case rel => exact ⟨HU.out, Frm.refl _ _⟩
        case rest =>
          obtain ⟨hDf, hFf⟩ := hcut
          generalize wc = wf at *
          have hF6 := HF8.out.trans hFf (fun _ _ h => h)
          have hr1 := HRR.out.1.ne hzx hF6
          have hr2 := HRR.out.2.1.ne HD6.out hF6
          have kxf := HRR.out.2.2.1.frm hF6 (show ¬ x = b by have := HRR.out.2.2.2; omega)
          have hBf : Below w.heap.size w wf := HB8.out.trans (hFf.below HB8.out.size (fun j hj => by have := HW0.out.2; omega))
          have HKX := Lib.hid (fun W (hW : Below wf.heap.size wf W) => (⟨(kxf.below hW).cell 0, (kxf.below hW).cell 1, (kxf.below hW).cell 2⟩ : W.cell? ⟨x, 0, none⟩ = some (.int .i64 (X.await : Int)) ∧ W.cell? ⟨x, 1, none⟩ = some (.slice o1 X.pend.length c3) ∧ W.cell? ⟨x, 2, none⟩ = some (.bool X.body)))
          have H1 := Lib.hid (fun W (hW : Below wf.heap.size wf W) => show Calls Tryz.prog 25 #[.pointer (some ⟨b, 0, none⟩)] W fun e w' => ∃ v, e = .returned v ∧ v = .string s ∧ Below wf.heap.size wf w' from (dw_text W b _ s (hDf.below hW)).mono (fun e w' ⟨h1, h2⟩ => ⟨_, h1, rfl, by rw [h2]; exact hW⟩))
          have H2 := Lib.hid (fun W (hW : Below wf.heap.size wf W) => show Calls Tryz.prog 16 #[.pointer (some ⟨b, 0, none⟩)] W fun e w' => ∃ v, e = .returned v ∧ ∃ z c, v = .slice (some ⟨z, 0, none⟩) NT c ∧ RdK w' (some ⟨z, 0, none⟩) NT ((TKs s).map Prod.fst) ∧ Below wf.heap.size wf w' from (HTA.out W (hDf.below hW)).mono (fun e w' ⟨z, c, h1, h2, _, h3⟩ => ⟨_, h1, z, c, rfl, h2, hW.trans (h3.mono hW.size)⟩))
          have H3 := Lib.hid (fun W (z' c' : Nat) (hW : Below wf.heap.size wf W) (hr : RdK W (some ⟨z', 0, none⟩) NT ((TKs s).map Prod.fst)) => show Calls Tryz.prog 18 #[.slice (some ⟨z', 0, none⟩) NT c', .slice (some ⟨z1, 0, none⟩) NT c1] W fun e w' => ∃ v, e = .returned v ∧ v = .bool true ∧ Below wf.heap.size wf w' from (sameT_any W _ _ _ NT c' c1 hr (hr1.below hW) HZZ.out.1).mono (fun e w' ⟨h1, h2⟩ => ⟨_, h1, rfl, hW.trans (h2.mono hW.size)⟩))
          have H4 := Lib.hid (fun W (hW : Below wf.heap.size wf W) => show Calls Tryz.prog 26 #[.pointer (some ⟨b, 0, none⟩)] W fun e w' => ∃ v, e = .returned v ∧ ∃ o2 c2, v = .agg #[.int .i64 (X.await : Int), .slice o2 X.pend.length c2, .bool X.body] ∧ RdD w' o2 X.pend.length X.pend ∧ Below wf.heap.size wf w' from (HLA.out W (hDf.below hW)).mono (fun e w' ⟨o2, c2, h1, h2, h3⟩ => ⟨_, h1, o2, c2, rfl, h2, hW.trans (h3.mono hW.size)⟩))
          have H5 := Lib.hid (fun W (o2 : Option Addr) (c2 : Nat) (hW : Below wf.heap.size wf W) (hr : RdD W o2 X.pend.length X.pend) => show Calls Tryz.prog 21 #[.agg #[.int .i64 (X.await : Int), .slice o2 X.pend.length c2, .bool X.body], .agg #[.int .i64 (X.await : Int), .slice o1 X.pend.length c3, .bool X.body]] W fun e w' => ∃ v, e = .returned v ∧ v = .bool true ∧ Below wf.heap.size wf w' from (rsame_any W X.pend X.pend o2 o1 _ _ c2 c3 hr (hr2.below hW) HZZ.out.2 HZZ.out.2 X.await X.await X.body X.body).mono (fun e w' ⟨h1, h2⟩ => ⟨_, by rw [h1, sameX_refl], rfl, hW.trans (h2.mono hW.size)⟩))
          have HBF := Lib.hid hBf
          have hbs := bs_eqb s s
          simp only [decide_true] at hbs
          clear hDf hFf hF6 hr1 hr2 kxf hBf
          go_upto_region 15 with fail
          obtain ⟨x0, x1, x2⟩ := HKX.out wf.drew (Below.refl _ _).drew
          go_region_law (first
            | (refine step_callX (by rfl) Tryz.func21 (by kernel_rfl) (by kernel_rfl) _ _ (by rfl) [.agg #[.int .i64 (X.await : Int), .slice o2 X.pend.length c2, .bool X.body], .agg #[.int .i64 (X.await : Int), .slice o1 X.pend.length c3, .bool X.body]] (by rfl) _ (H5.out q4 o2 c2 hq4 hr7) ?_; intro v q5 hh; obtain ⟨hv8, hq5⟩ := hh; subst hv8; obtain ⟨x0, x1, x2⟩ := HKX.out _ hq5)
            | (refine step_callX (by rfl) Tryz.func26 (by kernel_rfl) (by kernel_rfl) _ _ (by rfl) [.pointer (some ⟨b, 0, none⟩)] (by rfl) _ (H4.out q3 hq3) ?_; intro v q4 hh; obtain ⟨o2, c2, hv7, hr7, hq4⟩ := hh; subst hv7; obtain ⟨x0, x1, x2⟩ := HKX.out _ hq4)
            | (refine step_callX (by rfl) Tryz.func18 (by kernel_rfl) (by kernel_rfl) _ _ (by rfl) [.slice (some ⟨zt, 0, none⟩) NT cz, .slice (some ⟨z1, 0, none⟩) NT c1] (by rfl) _ (H3.out q2 zt cz hq2 hr5) ?_; intro v q3 hh; obtain ⟨hv6, hq3⟩ := hh; subst hv6; obtain ⟨x0, x1, x2⟩ := HKX.out _ hq3)
            | (refine step_callX (by rfl) Tryz.func16 (by kernel_rfl) (by kernel_rfl) _ _ (by rfl) [.pointer (some ⟨b, 0, none⟩)] (by rfl) _ (H2.out q1 hq1) ?_; intro v q2 hh; obtain ⟨zt, cz, hv5, hr5, hq2⟩ := hh; subst hv5; obtain ⟨x0, x1, x2⟩ := HKX.out _ hq2)
            | (refine step_callX (by rfl) Tryz.func25 (by kernel_rfl) (by kernel_rfl) _ _ (by rfl) [.pointer (some ⟨b, 0, none⟩)] (by rfl) _ (H1.out wf.drew (Below.refl wf.heap.size wf).drew) ?_; intro v q1 hh; obtain ⟨hv4, hq1⟩ := hh; subst hv4; obtain ⟨x0, x1, x2⟩ := HKX.out _ hq1))
          all_goals
            go_wp2
            go_ret
            exact ⟨rfl, HBF.out.trans (hq5.mono HBF.out.size)⟩
end Go.Proofs.YtdjcidackkogjaaGreatDoor

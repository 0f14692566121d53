/- What Apply of a Doc of layer 10 (relex) returns. Condition: texts of at most 900 bytes; the program's table of operators lies as start-up lays it.
A Doc of layer 10 (relex) whatever its rows; what New returns, and Apply whatever the edit. Condition: texts of at most 900 bytes; the program's table of operators lies as start-up lays it. -/
import Derived.Test.YtdjcidackkogjaaGreatDoorRxD
import Derived.Test.YtdjcidackkogjaaGreatDoorRf
import Derived.Test.YtdjcidackkogjaaGreatDoorRj
namespace Go.Proofs.YtdjcidackkogjaaGreatDoor
open Go Go.RowKit
set_option linter.unusedVariables false
set_option linter.unusedSectionVars false

theorem Pth.inv {s : ByteArray} {D : List Dl} : ∀ {I : List (Tk × Mk)} {a b : Nat} {m n : Mk}, Pth s D a m I b n → m.await ≤ 1000 → m.frm ≤ m.en → m.en ≤ D.length → m.en ≤ a → ((mkL m D).body = true → (mkL m D).pend ≠ []) → n.await ≤ 1000 ∧ n.en ≤ b ∧ ((mkL n D).body = true → (mkL n D).pend ≠ [])
  | [], a, b, m, n, h, h1, _, _, h2, h3 => by
    obtain ⟨rfl, rfl⟩ := h
    exact ⟨h1, h2, h3⟩
  | q :: I, a, b, m, n, ⟨g1, g2, g3, u, g4, g5⟩, h1, hle, hD, h2, h3 => by
    have hok := tkN_ok (mkL m D) g1
    rw [← g3] at hok
    have hlen := mkL_len hD
    have hn := nxN_ok (mkL m D) g1 (by rw [hlen]; omega) h1
    have hl := g4.l
    have ha := congrArg Lx.await hl
    have he := g4.e
    have hps : pushN s a (mkL m D) ≤ 1 := by
      unfold pushN
      split
      · exact Nat.le_refl _
      · exact Nat.zero_le _
    refine Pth.inv g5 ?_ g4.le g4.en (by omega) ?_
    · have : u.await = (nxN s a (mkL m D)).await := ha
      rw [this]
      exact hn.2
    · rw [hl]
      exact nx_body h3
theorem Pth.start {s : ByteArray} {D : List Dl} {I : List (Tk × Mk)} {b : Nat} {n : Mk} (h : Pth s D 0 Mk.zero I b n) : n.await ≤ 1000 ∧ n.en ≤ b ∧ ((mkL n D).body = true → (mkL n D).pend ≠ []) :=
  h.inv (Nat.zero_le _) (Nat.le_refl _) (Nat.zero_le _) (Nat.zero_le _) (fun h => by cases h)
theorem rz_begin {w : World} {b : Nat} {s : ByteArray} {I : List (Tk × Mk)} {E : Mk} {D : List Dl} {oi : Option Addr} {ni ci : Nat} {od : Option Addr} {nd cd : Nat} (hV : DocV w b s I E D oi ni ci od nd cd) {k rb : Nat} (hk : k ≤ ni) {T : ByteArray} {base : Nat} (hkr : Blk w rb (rdCells b T (atAt I k) (mkAt I E k) (.slice od (mkAt I E k).en (mkAt I E k).en) (-1)) 97) (hd : ∀ g off, od = some ⟨g, off, none⟩ → g ≠ rb) (hle : atAt I k ≤ T.size) :
    Rz w base b rb T (atAt I k) (mkAt I E k) (D.take (mkAt I E k).en) [] (atAt I k) (mkAt I E k) (D.take (mkAt I E k).en) od (mkAt I E k).en (mkAt I E k).en (-1) := by
  have hl := hV.its.len
  obtain ⟨h1, h2⟩ := hV.path.cut (show k ≤ I.length by omega)
  have hm := (Pth.le h1).2.2.2.2 (Nat.le_refl _) (Nat.zero_le _)
  obtain ⟨a1, a2, a3⟩ := h1.start
  have hlen : (D.take (mkAt I E k).en).length = (mkAt I E k).en := by rw [List.length_take]; omega
  have hln := hV.ln
  have hsrc : Src w (.slice od (mkAt I E k).en (mkAt I E k).en) (mkAt I E k).en (cellsD (D.take (mkAt I E k).en)) := by
    have e9 : cellsD (D.take (mkAt I E k).en) = (cellsD D).take ((mkAt I E k).en * 2) := by
      have := cellsD_seg (D := D) (a := 0) (b := (mkAt I E k).en) hm.2
      simpa using this
    rw [e9]
    generalize (mkAt I E k).en = z at *
    rcases hV.del with ⟨e1, e2, e3⟩ | ⟨g, off, c, e1, e2, e3⟩
    · injection e1 with f1 f2 f3
      have : z = 0 := by omega
      subst this
      exact .inl ⟨by rw [f1], rfl, by simp⟩
    · injection e1 with f1 f2 f3
      refine .inr ⟨g, off, z, by rw [f1], e2, fun j u hj => e3 j u ?_⟩
      rw [List.getElem?_take] at hj
      split at hj
      · exact hj
      · cases hj
  refine ⟨⟨hkr, hsrc, hlen.symm, hlen.symm, hm.1, Nat.le_refl _, .inl rfl, fun g hg => ?_⟩, ⟨rfl, rfl⟩, ?_, hle, a2, a1, ?_⟩
  · rcases hV.del with ⟨e1, _, _⟩ | ⟨g', off, c, e1, _, _⟩
    · injection e1 with f1
      rw [f1] at hg
      cases hg
    · injection e1 with f1
      rw [f1] at hg
      injection hg with hg
      subst hg
      exact hd g' off f1
  · rw [List.take_take, Nat.min_self]
  · have : mkL (mkAt I E k) (D.take (mkAt I E k).en) = mkL (mkAt I E k) D := mkL_take (by rw [List.take_take, Nat.min_self])
    rw [this]
    exact a3
section
variable (w : World) (b : Nat) (s : ByteArray) (I : List (Tk × Mk)) (E : Mk) (D : List Dl) (oi : Option Addr) (ni ci : Nat) (od : Option Addr) (nd cd : Nat) (hV : DocV w b s I E D oi ni ci od nd cd)
include hV
set_option maxRecDepth 100000 in
set_option maxHeartbeats 4000000 in
theorem apply_bad (a : Int) (d n : ByteArray) (k : Int) (hk : wrongN s a d n = k) (hk0 : k ≠ 0) (hd : d.size ≤ 281474976710656) (hn : n.size ≤ 281474976710656) :
    Calls Tryz.prog 13 #[.pointer (some ⟨b, 0, none⟩), .agg #[.int .i64 a, .string d, .string n]] w fun e w' => e = .returned (.tuple #[.agg #[.int .i64 0, .int .i64 0], .int .i64 k]) ∧ Below w.heap.size w w' := by
  have hsz := hV.sz
  obtain ⟨z, hz⟩ : ∃ z, w.heap.size = z := ⟨_, rfl⟩
  obtain ⟨W0, hW0⟩ : ∃ X, (w.alloc (.cells #[.int .i64 a, .string d, .string n] 35)).alloc (.cells #[.int .i64 0, .int .i64 0] 31) = X := ⟨_, rfl⟩
  have hB0 : Below w.heap.size w W0 := by rw [← hW0]; exact below_a2' w _ _
  have k1 : Blk W0 z #[.int .i64 a, .string d, .string n] 35 := by rw [← hW0, ← hz]; exact (Blk.new _ _ _).alloc _
  have k2 : Blk W0 (z + 1) #[.int .i64 0, .int .i64 0] 31 := by rw [← hW0, ← hz]; exact blk_a2 w _ _ _
  have kb := (hV.blk).below hB0
  have HDO := Lib.hid (fun W => show Calls Tryz.prog 29 #[.string s, .agg #[.int .i64 a, .string d, .string n]] W fun e w' => ∃ v, e = .returned v ∧ v = .tuple #[.string ⟨#[]⟩, .int .i64 k] ∧ Below W.heap.size W w' from (do_bad s d n W a k hk hk0 (by omega) hd hn).mono (fun e w' ⟨h1, h2⟩ => ⟨_, h1, rfl, h2⟩))
  have hkp : ∀ W, Below W0.heap.size W0 W → W.cell? ⟨b, 0, none⟩ = some (.string s) ∧ W.cell? ⟨z, 0, none⟩ = some (.int .i64 a) ∧ W.cell? ⟨z, 1, none⟩ = some (.string d) ∧ W.cell? ⟨z, 2, none⟩ = some (.string n) := fun W hW => ⟨(kb.below hW).cell 0, (k1.below hW).cell 0, (k1.below hW).cell 1, (k1.below hW).cell 2⟩
  have HKP := Lib.hid hkp
  have HB0 := Lib.hid hB0
  have HK2 := Lib.hid k2
  have hk0' : (k == 0) = false := by simpa using hk0
  clear hV hk hB0 k1 k2 kb hkp
  go_enter Tryz.func13, Tryz.ntmps13
  go_upto_region 1 with fail
  have HW0 := Lib.hid (And.intro hW0 hz)
  clear hW0 hz
  go_region_held_law (fun W => W.cell? ⟨b, 0, none⟩ = some (.string s) ∧ W.cell? ⟨z, 0, none⟩ = some (.int .i64 a) ∧ W.cell? ⟨z, 1, none⟩ = some (.string d) ∧ W.cell? ⟨z, 2, none⟩ = some (.string n)) (exact HKP.out _ (by first | exact (Below.refl _ _).drew | exact hb04)) (first
    | (refine step_call (by rfl) Tryz.func29 (by kernel_rfl) (by kernel_rfl) _ _ (by rfl) [.string s, .agg #[.int .i64 a, .string d, .string n]] (by rfl) _ (HDO.out W0.drew) ?_; intro v w4 hh; obtain ⟨hv4, hb4⟩ := hh; subst hv4; have hb04 : Below W0.heap.size W0 w4 := (Below.refl W0.heap.size W0).drew.trans hb4))
  all_goals
    have k3 := HK2.out.below hb04
    have c0 := k3.cell 0
    have c1 := k3.cell 1
    have f0 := k3.frozen 0
    have f1 := k3.frozen 1
    have k4 := (k3.set 0 (.int .i64 0)).set 1 (.int .i64 0)
    have k4' : Blk ((w4.setCell ⟨z + 1, 0, none⟩ (.int .i64 0)).setCell ⟨z + 1, 1, none⟩ (.int .i64 0)) (z + 1) #[.int .i64 0, .int .i64 0] 31 := by simpa using k4
    have hF : Frm (fun j => j = z + 1) w4 ((w4.setCell ⟨z + 1, 0, none⟩ (.int .i64 0)).setCell ⟨z + 1, 1, none⟩ (.int .i64 0)) := (Frm.put (Frm.refl _ w4) 0 _).put 1 _
    have HF := Lib.hid (And.intro k4' hF)
    have HB4 := Lib.hid hb04
    clear k3 k4 k4' hF hb04
    go_wp2
    have u0 := HF.out.1.cell 0
    have u1 := HF.out.1.cell 1
    refine bodyPost_ret (v := .tuple #[.agg #[.int .i64 0, .int .i64 0], .int .i64 k]) (by simp [results, Tryz.results13, go_sem, u0, u1]) rfl ⟨rfl, ?_⟩
    have hB4 := HB0.out.trans (HB4.out.mono HB0.out.size)
    exact hB4.trans (HF.out.2.below hB4.size (fun j hj => by have := HW0.out.2; omega))
def ApP (w : World) (b : Nat) (s : ByteArray) (I : List (Tk × Mk)) (D : List Dl) (at' : Nat) (d n : ByteArray) (e : Ending) (w' : World) : Prop :=
  ∃ (hd tail : Nat) (I' : List (Tk × Mk)) (E' : Mk) (D' : List Dl) (g ni' ci' : Nat) (od' : Option Addr) (nd' cd' : Nat), e = .returned (.tuple #[.agg #[.int .i64 (hd : Int), .int .i64 (tail : Int)], .int .i64 0]) ∧ DocV w' b (doB s at' d n) I' E' D' (some ⟨g, 0, none⟩) ni' ci' od' nd' cd' ∧ ni' ≤ ci' ∧ w.heap.size ≤ g ∧ (∀ g off, od' = some ⟨g, off, none⟩ → w.heap.size ≤ g) ∧ Frm (fun k => k = b) w w' ∧ KeptP I D I' D' at' d.size ((n.size : Int) - (d.size : Int)) hd tail
set_option maxRecDepth 100000 in
set_option maxHeartbeats 8000000 in
theorem apply_ok (hic : ni ≤ ci) (hin : (oi = none ∧ ci = 0) ∨ ∃ g off, oi = some ⟨g, off, none⟩) (h0 : 0 < b) (hT : Tx w) (at' : Nat) (d n : ByteArray) (hk : wrongN s at' d n = 0) (hd : d.size ≤ 1000000) (hn : n.size ≤ 1000000) (hT9 : (doB s at' d n).size ≤ 900) :
    Calls Tryz.prog 13 #[.pointer (some ⟨b, 0, none⟩), .agg #[.int .i64 (at' : Int), .string d, .string n]] w fun e w' => ApP w b s I D at' d n e w' := by
  have hsz := hV.sz
  obtain ⟨_, hat, hfit', _⟩ := wrongN_0 hk
  have hfit : at' + d.size ≤ s.size := by simpa using hfit'.1
  have HFIT := Lib.hid hfit
  obtain ⟨z, hz⟩ : ∃ z, w.heap.size = z := ⟨_, rfl⟩
  obtain ⟨T, hTT⟩ : ∃ T, doB s at' d n = T := ⟨_, rfl⟩
  obtain ⟨W0, hW0⟩ : ∃ X, (w.alloc (.cells #[.int .i64 (at' : Int), .string d, .string n] 35)).alloc (.cells #[.int .i64 0, .int .i64 0] 31) = X := ⟨_, rfl⟩
  have hB0 : Below w.heap.size w W0 := by rw [← hW0]; exact below_a2' w _ _
  have k1 : Blk W0 z #[.int .i64 (at' : Int), .string d, .string n] 35 := by rw [← hW0, ← hz]; exact (Blk.new _ _ _).alloc _
  have k2 : Blk W0 (z + 1) #[.int .i64 0, .int .i64 0] 31 := by rw [← hW0, ← hz]; exact blk_a2 w _ _ _
  have hV0 := hV.below hB0
  have kb := hV0.blk
  have HDO := Lib.hid (fun W => show Calls Tryz.prog 29 #[.string s, .agg #[.int .i64 (at' : Int), .string d, .string n]] W fun e w' => ∃ v, e = .returned v ∧ v = .tuple #[.string T, .int .i64 0] ∧ Below W.heap.size W w' from (do_ok s d n W at' hk (by omega) (by omega) (by omega)).mono (fun e w' ⟨h1, h2⟩ => ⟨_, h1, by rw [hTT], h2⟩))
  have hkp : ∀ W, Below W0.heap.size W0 W → W.cell? ⟨b, 0, none⟩ = some (.string s) ∧ W.cell? ⟨z, 0, none⟩ = some (.int .i64 (at' : Int)) ∧ W.cell? ⟨z, 1, none⟩ = some (.string d) ∧ W.cell? ⟨z, 2, none⟩ = some (.string n) := fun W hW => ⟨(kb.below hW).cell 0, (k1.below hW).cell 0, (k1.below hW).cell 1, (k1.below hW).cell 2⟩
  have HKP := Lib.hid hkp
  have HB0 := Lib.hid hB0
  have HK := Lib.hid (And.intro k1 (And.intro k2 hV0))
  have HV := Lib.hid (And.intro hV (And.intro hTT (hT.b hB0)))
  rw [hTT] at hT9
  clear hV hk hB0 k1 k2 kb hkp hV0 hTT hfit' hat hT
  go_enter Tryz.func13, Tryz.ntmps13
  go_upto_region 1 with fail
  have HW0 := Lib.hid (And.intro hW0 hz)
  clear hW0 hz
  go_cut [6, 7] from 12 to 20 (fun v u wx => v = .string T ∧ u = .int .i64 0 ∧ Below W0.heap.size W0 wx)
  case first =>
    go_region_held_law (fun W => W.cell? ⟨b, 0, none⟩ = some (.string s) ∧ W.cell? ⟨z, 0, none⟩ = some (.int .i64 (at' : Int)) ∧ W.cell? ⟨z, 1, none⟩ = some (.string d) ∧ W.cell? ⟨z, 2, none⟩ = some (.string n)) (exact HKP.out _ (by first | exact (Below.refl _ _).drew | exact hb04)) (first
      | (refine step_call (by rfl) Tryz.func29 (by kernel_rfl) (by kernel_rfl) _ _ (by rfl) [.string s, .agg #[.int .i64 (at' : Int), .string d, .string n]] (by rfl) _ (HDO.out W0.drew) ?_; intro v w4 hh; obtain ⟨hv4, hb4⟩ := hh; subst hv4; have hb04 : Below W0.heap.size W0 w4 := (Below.refl W0.heap.size W0).drew.trans hb4))
    all_goals
      go_step
      go_step
      go_meet
      case rel => exact ⟨rfl, rfl, hb04⟩
  case rest =>
    obtain ⟨rfl, rfl, hb4⟩ := hcut
    generalize wc = w4 at *
    have hV4 := HK.out.2.2.below hb4
    have HFA := Lib.hid (firstA_any w4 b s I E D oi ni ci od nd cd hV4 at' d n z (HK.out.1.below hb4) (by omega) hd)
    have HK4 := Lib.hid (And.intro (HK.out.1.below hb4) (And.intro (HK.out.2.1.below hb4) hV4))
    have HB4 := Lib.hid (HB0.out.trans (hb4.mono HB0.out.size))
    have HT4 := Lib.hid (HV.out.2.2.b hb4)
    clear hV4 hb4 HK HKP HDO HB0
    go_wp2_with fail
    refine (HFA.out).mono ?_
    rintro e1 w5 ⟨k, rfl, hk, hlo, hlo2, hb5⟩
    have HLO := Lib.hid (And.intro hlo hlo2)
    have HK5 := Lib.hid (And.intro (HK4.out.1.below hb5) (And.intro (HK4.out.2.1.below hb5) (HK4.out.2.2.below hb5)))
    have HB5 := Lib.hid (HB4.out.trans (hb5.mono HB4.out.size))
    have HT5 := Lib.hid (HT4.out.b hb5)
    clear hlo hlo2 hb5 HK4 HB4 HT4 HFA
    go_wp2_with fail
    refine (tclone_any T _ (by omega)).mono ?_
    rintro e2 w6 ⟨rfl, hb6⟩
    have HK6 := Lib.hid (And.intro (HK5.out.1.below hb6) (And.intro (HK5.out.2.1.below hb6) (HK5.out.2.2.below hb6)))
    have HB6 := Lib.hid (HB5.out.trans (hb6.mono HB5.out.size))
    have HT6 := Lib.hid (HT5.out.b hb6)
    clear hb6 HK5 HB5 HT5
    go_wp2_with fail
    refine (reader_any w6 b s I E D oi ni ci od nd cd HK6.out.2.2 k hk T).mono ?_
    rintro e3 w7 ⟨rb, rfl, kr, hb7, hrb⟩
    obtain ⟨hlo, hlo2⟩ := HLO.out
    have hlen := HV.out.1.its.len
    obtain ⟨hA0, hAd⟩ := HV.out.1.path.cut (show k ≤ I.length by omega)
    have hA0l := Pth.le hA0
    have hak : atAt I k ≤ at' := by
      match k, hk, hlo with
      | 0, _, _ => exact Nat.zero_le _
      | j + 1, hk, hlo =>
        have hg : I[j]? = some (I[j]'(by omega)) := List.getElem?_eq_getElem _
        have h9 := hlo j _ (by omega) hg
        unfold prA at h9
        show (match I[j]? with | some q => q.1.en | none => 0) ≤ at'
        rw [hg]
        simp at h9
        show (I[j]'(by omega)).1.en ≤ at'
        omega
    have hTz : T.size = s.size - d.size + n.size := by rw [← HV.out.2.1]; exact doB_size HFIT.out
    have hs7 := hb7.size
    have hV7 := HK6.out.2.2.below hb7
    have hob : ∀ g off, od = some ⟨g, off, none⟩ → g < w6.heap.size := HK6.out.2.2.dl
    have hbl : b < w6.heap.size := HK6.out.2.2.blk.lt
    have hz0 := rz_begin (base := w7.heap.size) hV7 hk kr (fun g off hg => by have := hob g off hg; omega) (by have := HFIT.out; omega)
    have HB7 := Lib.hid (HB6.out.trans (hb7.mono HB6.out.size))
    have HK7 := Lib.hid (And.intro (HK6.out.1.below hb7) (And.intro (HK6.out.2.1.below hb7) hV7))
    have HRR := Lib.hid (reread_any w7 b s I E D oi ni ci od nd cd hV7 rb T (atAt I k) (mkAt I E k) (D.take (mkAt I E k).en) od (mkAt I E k).en (mkAt I E k).en hz0 (fun g hg => by
      cases od with
      | none => cases hg
      | some q =>
        obtain ⟨g2, o2, sp⟩ := q
        rcases hV7.del with ⟨e1, _, _⟩ | ⟨g', off, c, e1, e2, _⟩
        · cases e1
        · injection e1 with f1
          injection f1 with f1
          injection f1 with f2 f3 f4
          injection hg with hg
          rw [← hg, f2]
          exact e2) (by omega) (fun g off hg => by have := HK6.out.2.2.il g off hg; omega) (fun g off hg => by have := hob g off hg; omega) (by omega) (HT6.out.b hb7) hT9 at' d n (by omega) hd hn)
    have kz7 := (HK6.out.1.below hb7)
    have c0 := kz7.cell 0
    have c1 := kz7.cell 1
    have c2 := kz7.cell 2
    have HLE := Lib.hid (And.intro hk (And.intro hlen (And.intro hak (And.intro hTz (And.intro hrb hbl)))))
    clear hz0 kz7 hV7 hb7 kr hob hA0 hAd hA0l hak hlo hlo2 hlen
    go_wp2_with fail
    refine (HRR.out).mono ?_
    rintro e4 w8 ⟨n0, hn0, hm0, hm1, its, n1, df1, a', m', F', og', ng', cg', df', fo, fc, tail, rfl, hown, kr8, hF8, hln8, hen8, hcap8, hgr8, hB8, htk8, hF78, hRr, hend⟩
    clear c0 c1 c2
    go_wp2_with fail
    obtain ⟨hk, hlen, hak, hTz, hrb, hbl⟩ := HLE.out
    have hV8 := HK7.out.2.2.frm hF78 (show ¬ b = rb by omega) (fun g off hg => show ¬ g = rb by have := HK6.out.2.2.il g off hg; omega) (fun g off hg => show ¬ g = rb by have := HK6.out.2.2.dl g off hg; omega)
    have hTe := HV.out.2.1
    have hB8' : Pth (doB s at' d n) F' (atAt I k) (mkAt I E k) its a' m' := by rw [hTe]; exact hB8
    have hpath := apply_path HV.out.1.path HV.out.1.en HFIT.out (show k ≤ I.length by omega) HLO.out.1 hB8' htk8 hen8 (n0 := n0) (tail := tail) hm1 (by
      rcases hend with ⟨h1, h2⟩ | ⟨q, n2, h1, h2, h3, h4, h5⟩
      · exact .inl ⟨h1, by rw [hTe]; exact h2⟩
      · exact .inr ⟨q, n1, df1, n2, df', hRr.le.1, h1, h2, h3, h4, h5⟩)
    have hkept := apply_kept HV.out.1.path HV.out.1.en HFIT.out (show k ≤ I.length by omega) HLO.out.1 HLO.out.2 hB8' htk8 hen8 hm0 hm1 hRr (by
      rcases hend with ⟨h1, h2⟩ | ⟨q, n2, h1, h2, h3, h4, h5⟩
      · exact .inl ⟨h1, by rw [hTe]; exact h2⟩
      · exact .inr ⟨q, n2, df', h1, h2, h3, h4, h5⟩)
    rw [hTe, ← hlen] at hpath hkept
    have hBl := Pth.le hB8
    have hBe := Pth.en_le hB8
    have hA0 := (HV.out.1.path.cut (show k ≤ I.length by omega)).1.start
    have haT : a' ≤ T.size := hBl.2.2.2.1 (by clear hend; have := HFIT.out; omega)
    have f1 : its.length ≤ 900 := by clear hend hpath hkept; omega
    have f2 : F'.length ≤ 900 := by clear hend hpath hkept; omega
    obtain ⟨p1, p2, p3, p4, p5⟩ := hpath
    have HDC := Lib.hid (doc_any w8 b s I E D oi ni ci od nd cd hV8 hic hin rb T a' m' F' og' ng' cg' df' kr8 hF8 hln8 fo its.length fc its (Src.of_own hown) rfl k tail p3 hT9 f1 f2 p4 p5)
    have hs8 := hF78.size
    have HP := Lib.hid (And.intro p1 (And.intro p2 (And.intro hkept (And.intro hln8 hF78))))
    have HV8 := Lib.hid hV8
    have hk28 := HK7.out.2.1.frm hF78 (show ¬ z + 1 = rb by have := HK6.out.2.1.lt; omega)
    have HK28 := Lib.hid hk28
    clear hkept p1 p2 p4 p5 hBl hBe hA0 haT hB8 hB8' htk8 hRr hend hF78 hown kr8 hF8 hln8 hen8 hcap8 hgr8 hm0 hm1 hTe hV8 hk28
    refine (HDC.out).mono ?_
    rintro e5 w9 ⟨E', oa, oc, gi, rfl, hE', hOI, hOD, hb9⟩
    unfold cellsDoc
    obtain ⟨eA, eB, ef, ee⟩ := E'
    dsimp only
    obtain ⟨NN, hNN⟩ : ∃ N, k + its.length + tail = N := ⟨_, rfl⟩
    obtain ⟨nD, hnD⟩ : ∃ N, ng' + (nd - (mkAt I E (ni - tail)).en) = N := ⟨_, rfl⟩
    rw [hNN] at hOI ⊢
    rw [hnD] at hOD ⊢
    have kb9 := HV8.out.blk.below hb9
    have k29 := HK28.out.below hb9
    have b0 := kb9.cell 0
    have b1 := kb9.cell 1
    have b2 := kb9.cell 2
    have b3 := kb9.cell 3
    have b4 := kb9.cell 4
    have b5 := kb9.cell 5
    have b6 := kb9.cell 6
    have g0 := kb9.frozen 0
    have g1 := kb9.frozen 1
    have g2 := kb9.frozen 2
    have g3 := kb9.frozen 3
    have g4 := kb9.frozen 4
    have g5 := kb9.frozen 5
    have g6 := kb9.frozen 6
    have HE := Lib.hid (And.intro hE' (And.intro hOI (And.intro hOD (And.intro hb9 (And.intro hNN (And.intro hnD (And.intro kb9 k29)))))))
    clear hE' hOI hOD hb9 hNN hnD kb9 k29
    go_upto_region 8 with fail
    obtain ⟨hE', hOI, hOD, hb9, hNN, hnD, kb9, k29⟩ := HE.out
    have ka := ((((((kb9.set 0 (.string T)).set 1 (.slice (some ⟨gi, 0, none⟩) NN NN)).set 2 (.int .i64 (eA : Int))).set 3 (.bool eB)).set 4 (.int .i64 (ef : Int))).set 5 (.int .i64 (ee : Int))).set 6 (.slice oa nD oc)
    have hfa : Frm (fun k => k = b) w9 (((((((w9.setCell ⟨b, 0, none⟩ (.string T)).setCell ⟨b, 1, none⟩ (.slice (some ⟨gi, 0, none⟩) NN NN)).setCell ⟨b, 2, none⟩ (.int .i64 (eA : Int))).setCell ⟨b, 3, none⟩ (.bool eB)).setCell ⟨b, 4, none⟩ (.int .i64 (ef : Int))).setCell ⟨b, 5, none⟩ (.int .i64 (ee : Int))).setCell ⟨b, 6, none⟩ (.slice oa nD oc)) :=
      ((((((Frm.put (Frm.refl _ w9) 0 _).put 1 _).put 2 _).put 3 _).put 4 _).put 5 _).put 6 _
    obtain ⟨wa, hwa⟩ : ∃ X, (((((((w9.setCell ⟨b, 0, none⟩ (.string T)).setCell ⟨b, 1, none⟩ (.slice (some ⟨gi, 0, none⟩) NN NN)).setCell ⟨b, 2, none⟩ (.int .i64 (eA : Int))).setCell ⟨b, 3, none⟩ (.bool eB)).setCell ⟨b, 4, none⟩ (.int .i64 (ef : Int))).setCell ⟨b, 5, none⟩ (.int .i64 (ee : Int))).setCell ⟨b, 6, none⟩ (.slice oa nD oc)) = X := ⟨_, rfl⟩
    rw [hwa] at ka hfa ⊢
    have ka' : Blk wa b #[.string T, .slice (some ⟨gi, 0, none⟩) NN NN, .int .i64 (eA : Int), .bool eB, .int .i64 (ef : Int), .int .i64 (ee : Int), .slice oa nD oc] 68 := by simpa using ka
    have k2a := k29.frm hfa (show ¬ z + 1 = b by have := HV.out.1.blk.lt; have := HW0.out.2; omega)
    have c0 := k2a.cell 0
    have c1 := k2a.cell 1
    have d0 := k2a.frozen 0
    have d1 := k2a.frozen 1
    have kk := (k2a.set 0 (.int .i64 (k : Int))).set 1 (.int .i64 (tail : Int))
    have kk' : Blk ((wa.setCell ⟨z + 1, 0, none⟩ (.int .i64 (k : Int))).setCell ⟨z + 1, 1, none⟩ (.int .i64 (tail : Int))) (z + 1) #[.int .i64 (k : Int), .int .i64 (tail : Int)] 31 := by simpa using kk
    have hfk : Frm (fun j => j = z + 1) wa ((wa.setCell ⟨z + 1, 0, none⟩ (.int .i64 (k : Int))).setCell ⟨z + 1, 1, none⟩ (.int .i64 (tail : Int))) := (Frm.put (Frm.refl _ wa) 0 _).put 1 _
    have HA := Lib.hid (And.intro ka' (And.intro hfa (And.intro kk' (And.intro hfk (And.intro hE' (And.intro hOI (And.intro hOD (And.intro hb9 (And.intro hNN hnD)))))))))
    clear ka ka' hfa kk kk' hfk hwa hE' hOI hOD hb9 hNN hnD kb9 k29 k2a b0 b1 b2 b3 b4 b5 b6 g0 g1 g2 g3 g4 g5 g6
    go_wp2
    obtain ⟨ka', hfa, kk', hfk, hE', hOI, hOD, hb9, hNN, hnD⟩ := HA.out
    obtain ⟨wf, hwf⟩ : ∃ X, (wa.setCell ⟨z + 1, 0, none⟩ (.int .i64 (k : Int))).setCell ⟨z + 1, 1, none⟩ (.int .i64 (tail : Int)) = X := ⟨_, rfl⟩
    rw [hwf] at kk' hfk ⊢
    have v0 := kk'.cell 0
    have v1 := kk'.cell 1
    refine bodyPost_ret (v := .tuple #[.agg #[.int .i64 (k : Int), .int .i64 (tail : Int)], .int .i64 0]) (by simp [results, Tryz.results13, go_sem, v0, v1]) rfl ?_
    obtain ⟨p1, p2, hkept, hln8, hF78⟩ := HP.out
    have hzb : z + 1 ≠ b := by have := HV.out.1.blk.lt; have := HW0.out.2; omega
    have hbz : b < z := by have := HV.out.1.blk.lt; have := HW0.out.2; omega
    have hzz := HW0.out.2
    have hz8 : w.heap.size ≤ w8.heap.size := by have := HB7.out.size; have := hF78.size; omega
    have hz2 : z + 1 < w6.heap.size := HK6.out.2.1.lt
    have hrb6 : w6.heap.size ≤ rb := HLE.out.2.2.2.2.1
    have hgI := own_ge hOI gi rfl
    have hlI := own_lt hOI gi rfl
    have hOIf := own_frm hfk (own_frm hfa hOI (fun j hj => by cases hj; show ¬ gi = b; omega)) (fun j hj => by cases hj; show ¬ gi = z + 1; have := HB7.out.size; have := hF78.size; have hs76 := HK28.out.lt; omega)
    have hODf := own_frm hfk (own_frm hfa hOD (fun j hj => show ¬ j = b by have := own_ge hOD j hj; omega)) (fun j hj => show ¬ j = z + 1 by have := own_ge hOD j hj; have hs76 := HK28.out.lt; omega)
    have hFr : Frm (fun j => j = b) w wf := by
      have e1 : Frm (fun j => j = b) w w7 := Frm.of_below HB7.out
      have e2 := e1.trans hF78 (fun j hj e => by omega)
      have e3 := e2.trans (Frm.of_below (p := fun j => j = b) hb9) (fun j _ e => e)
      have e4 := e3.trans hfa (fun j _ e => e)
      exact e4.trans hfk (fun j hj e => by omega)
    have hiI : RdI wf (some ⟨gi, 0, none⟩) NN (I.take k ++ its ++ (I.drop (ni - tail)).map fun q => (q.1.mv s.size T.size, q.2.mv F'.length (mkAt I E (ni - tail)).en)) := RdI.of_src (by
      have h1 := hOI.1
      rw [cellsI_length] at h1
      omega) (Src.of_own hOIf)
    refine ⟨k, tail, _, ⟨eA, eB, ef, ee⟩, _, gi, NN, NN, oa, nD, oc, rfl, ⟨by rw [HV.out.2.1]; exact ka'.frm hfk hzb.symm, hiI, Src.of_own hODf, ?_, own_cap hODf, ?_, ?_, ?_, ?_, ?_, ?_⟩, Nat.le_refl _, by omega, ?_, hFr, ?_⟩
    · rw [← hnD, List.length_append, List.length_drop, hln8, HV.out.1.ln]
    · intro g off h
      cases h
      have := hfa.size
      have := hfk.size
      omega
    · intro g off h
      cases h
      omega
    · intro g off h
      have := own_ge hOD g (by rw [h]; rfl)
      omega
    · rw [HV.out.2.1, hE']; exact p1
    · rw [hE']; exact p2
    · rw [HV.out.2.1]; exact hT9
    · intro g off h
      have := own_ge hOD g (by rw [h]; rfl)
      omega
    · exact hkept
end
end Go.Proofs.YtdjcidackkogjaaGreatDoor
namespace Go.Proofs.YtdjcidackkogjaaGreatDoor
open Go Go.RowKit
set_option linter.unusedVariables false
set_option linter.unusedSectionVars false

theorem Pth.ahead {s : ByteArray} {D : List Dl} {I : List (Tk × Mk)} {E : Mk} (h : Pth s D 0 Mk.zero I s.size E) {i : Nat} {q : Tk × Mk} (hi : I[i]? = some q) : (Lx.zero :: (TKs s).map Prod.snd)[i]? = some (mkL q.2 D) := by
  obtain ⟨L, h1, h2, h3, h4⟩ := h.tks
  rw [mkL_zero, tksF_end _ (Nat.lt_irrefl _), List.append_nil] at h1
  have e : TKs s = L := h1
  rw [e]
  cases i with
  | zero =>
    match I, h, hi with
    | q0 :: I, ⟨_, g2, _⟩, hi =>
      have e0 : q0 = q := by simpa using hi
      rw [← e0, g2, mkL_zero]
      rfl
  | succ i =>
    obtain ⟨r, hr1, hr2⟩ := h4 i q hi
    rw [List.getElem?_cons_succ, List.getElem?_map, hr1]
    simp [hr2]
def DocW (W : World) (b : Nat) (Av : Nat → Prop) (s : ByteArray) : Prop :=
  ∃ (I : List (Tk × Mk)) (E : Mk) (D : List Dl) (g ni ci : Nat) (od : Option Addr) (nd cd : Nat), DocV W b s I E D (some ⟨g, 0, none⟩) ni ci od nd cd ∧ ni ≤ ci ∧ ¬ Av g ∧ (∀ h off, od = some ⟨h, off, none⟩ → ¬ Av h)
theorem DocW.frm {p : Nat → Prop} {W W' : World} {b : Nat} {Av : Nat → Prop} {s : ByteArray} (h : DocW W b Av s) (hf : Frm p W W') (hb : ¬ p b) (hp : ∀ k, k < W.heap.size → p k → Av k) : DocW W' b Av s := by
  obtain ⟨I, E, D, g, ni, ci, od, nd, cd, hV, h1, h2, h3⟩ := h
  exact ⟨I, E, D, g, ni, ci, od, nd, cd, hV.frm hf hb (fun g' off e hh => by cases e; exact h2 (hp _ (hV.il _ _ rfl) hh)) (fun g' off e hh => h3 g' off e (hp _ (hV.dl _ _ e) hh)), h1, h2, h3⟩
theorem DocW.below {W W' : World} {b : Nat} {Av : Nat → Prop} {s : ByteArray} (h : DocW W b Av s) (hb : Below W.heap.size W W') : DocW W' b Av s := h.frm (Frm.of_below (p := fun _ => False) hb) id (fun _ _ h => h.elim)
theorem DocW.lt {W : World} {b : Nat} {Av : Nat → Prop} {s : ByteArray} (h : DocW W b Av s) : b < W.heap.size := by
  obtain ⟨I, E, D, g, ni, ci, od, nd, cd, hV, _⟩ := h
  exact hV.blk.lt
theorem DocW.widen {W : World} {b : Nat} {Av Aw : Nat → Prop} {s : ByteArray} (h : DocW W b Av s) (hw : ∀ k, k < W.heap.size → Aw k → Av k) : DocW W b Aw s := by
  obtain ⟨I, E, D, g, ni, ci, od, nd, cd, hV, h1, h2, h3⟩ := h
  exact ⟨I, E, D, g, ni, ci, od, nd, cd, hV, h1, fun hh => h2 (hw _ (hV.il _ _ rfl) hh), fun g' off e hh => h3 g' off e (hw _ (hV.dl _ _ e) hh)⟩
def stepD (s : ByteArray) (a : Int) (d n : ByteArray) : ByteArray := if wrongN s a d n = 0 then doB s a.toNat d n else s
theorem apply_dw (w : World) (b : Nat) (Av : Nat → Prop) (s : ByteArray) (hD : DocW w b Av s) (h0 : 0 < b) (hT : Tx w) (hA : ∀ k, Av k → k < w.heap.size) (a : Int) (d n : ByteArray) (hd : d.size ≤ 1000000) (hn : n.size ≤ 1000000) (hT9 : (stepD s a d n).size ≤ 900) :
    Calls Tryz.prog 13 #[.pointer (some ⟨b, 0, none⟩), .agg #[.int .i64 a, .string d, .string n]] w fun e w' => ∃ (h t : Nat), e = .returned (.tuple #[.agg #[.int .i64 (h : Int), .int .i64 (t : Int)], .int .i64 (wrongN s a d n)]) ∧ (wrongN s a d n ≠ 0 → h = 0 ∧ t = 0) ∧ DocW w' b Av (stepD s a d n) ∧ Frm (fun k => k = b) w w' := by
  obtain ⟨I, E, D, g, ni, ci, od, nd, cd, hV, h1, h2, h3⟩ := hD
  by_cases hw : wrongN s a d n = 0
  · have hst : stepD s a d n = doB s a.toNat d n := if_pos hw
    rw [hst] at hT9 ⊢
    obtain ⟨ha0, _⟩ := wrongN_0 hw
    obtain ⟨k, rfl⟩ := Int.eq_ofNat_of_zero_le ha0
    simp only [Int.toNat_natCast] at hT9 ⊢
    refine (apply_ok w b s I E D _ ni ci od nd cd hV h1 (.inr ⟨g, 0, rfl⟩) h0 hT k d n hw hd hn hT9).mono ?_
    rintro e w' ⟨h, t, I', E', D', g', ni', ci', od', nd', cd', rfl, hV', q1, q2, q3, hF, _⟩
    refine ⟨h, t, by rw [hw], fun hh => absurd hw hh, ⟨I', E', D', g', ni', ci', od', nd', cd', hV', q1, fun hh => ?_, fun g2 off e hh => ?_⟩, hF⟩
    · have := hA _ hh; omega
    · have := hA _ hh
      have := q3 g2 off e
      omega
  · have hst : stepD s a d n = s := if_neg hw
    rw [hst]
    refine (apply_bad w b s I E D _ ni ci od nd cd hV a d n _ rfl hw (by omega) (by omega)).mono ?_
    rintro e w' ⟨rfl, hb⟩
    exact ⟨0, 0, rfl, fun _ => ⟨rfl, rfl⟩, ⟨I, E, D, g, ni, ci, od, nd, cd, hV.below hb, h1, h2, h3⟩, Frm.of_below hb⟩
theorem dob_nil (s : ByteArray) : doB ⟨#[]⟩ 0 ⟨#[]⟩ s = s := by
  refine bt_ext ?_ (fun i hi => ?_)
  · rw [doB_size (by decide)]
    show 0 - 0 + s.size = s.size
    omega
  · rw [doB_size (by decide)] at hi
    rw [bt_dob (by decide) i hi, if_neg (by omega)]
    have hi2 : i < s.size := by
      have : (⟨#[]⟩ : ByteArray).size = 0 := rfl
      omega
    rw [if_pos (by omega)]
    simp
theorem wrong_nil (s : ByteArray) (h : s.size ≤ 1048576) : wrongN ⟨#[]⟩ ((0 : Nat) : Int) ⟨#[]⟩ s = 0 :=
  wrongN_mk0 (by omega) (by show ((0 : Nat) : Int) ≤ ((⟨#[]⟩ : ByteArray).size : Int); decide) ⟨by decide, by rfl⟩ (by have : (⟨#[]⟩ : ByteArray).size = 0 := rfl; omega)
set_option maxRecDepth 100000 in
set_option maxHeartbeats 4000000 in
theorem dnew_any (w : World) (hT : Tx w) (s : ByteArray) (hs : s.size ≤ 900) : Calls Tryz.prog 11 #[.string s] w fun e w' => e = .returned (.tuple #[.pointer (some ⟨w.heap.size, 0, none⟩), .int .i64 0]) ∧ (∀ Av : Nat → Prop, (∀ k, Av k → k ≤ w.heap.size) → DocW w' w.heap.size Av s) ∧ Below w.heap.size w w' := by
  obtain ⟨z, hz⟩ : ∃ z, w.heap.size = z := ⟨_, rfl⟩
  obtain ⟨W0, hW0⟩ : ∃ X, w.alloc (.cells #[.string ⟨#[]⟩, .slice none 0 0, .int .i64 0, .bool false, .int .i64 0, .int .i64 0, .slice none 0 0] 68) = X := ⟨_, rfl⟩
  have hB0 : Below w.heap.size w W0 := by rw [← hW0]; exact (Below.refl _ _).alloc (Nat.le_refl _) _
  have hz0 : W0.heap.size = z + 1 := by rw [← hW0, World.size_alloc, hz]
  have kz : Blk W0 z #[.string ⟨#[]⟩, .slice none 0 0, .int .i64 0, .bool false, .int .i64 0, .int .i64 0, .slice none 0 0] 68 := by rw [← hW0, ← hz]; exact Blk.new _ _ _
  have hV : DocV W0 z ⟨#[]⟩ [] Mk.zero [] none 0 0 none 0 0 := ⟨kz, ⟨rfl, fun j q hj => by simp at hj⟩, .inl ⟨rfl, rfl, rfl⟩, rfl, Nat.le_refl _, (fun g off h => by cases h), (fun g off h => by cases h), (fun g off h => by cases h), ⟨rfl, rfl⟩, rfl, Nat.zero_le _⟩
  have h0 : 0 < z := by have := hT.1; omega
  have hA : Calls Tryz.prog 13 #[.pointer (some ⟨z, 0, none⟩), .agg #[.int .i64 0, .string ⟨#[]⟩, .string s]] W0 fun e w' => ApP W0 z ⟨#[]⟩ [] [] 0 ⟨#[]⟩ s e w' :=
    apply_ok W0 z ⟨#[]⟩ [] Mk.zero [] none 0 0 none 0 0 hV (Nat.le_refl _) (.inl ⟨rfl, rfl⟩) h0 (hT.b hB0) 0 ⟨#[]⟩ s (wrong_nil s (by omega)) (Nat.zero_le _) (by omega) (by rw [dob_nil]; exact hs)
  have HA := Lib.hid hA
  have HB0 := Lib.hid (And.intro hB0 hz0)
  clear hV kz hB0 hz0 hA
  go_enter Tryz.func11, Tryz.ntmps11
  go_wp2_with fail
  refine (HA.out).mono ?_
  rintro e w' ⟨h, t, I', E', D', g', ni', ci', od', nd', cd', rfl, hV', q1, q2, q3, hF, _⟩
  have HV' := Lib.hid (And.intro hV' (And.intro q1 (And.intro q2 (And.intro q3 hF))))
  have HW0 := Lib.hid (And.intro hW0 hz)
  clear hV' q1 q2 q3 hF
  go_wp2
  go_ret2
  obtain ⟨hV', q1, q2, q3, hF⟩ := HV'.out
  have hs' := HB0.out.2
  have hal := (Below.refl w'.heap.size w').alloc (Nat.le_refl _) (.cells #[.int .i64 (h : Int), .int .i64 (t : Int)] 31)
  have hV2 := hV'.below hal
  rw [dob_nil] at hV2
  have hBz : Below w.heap.size w w' := HB0.out.1.trans (hF.below HB0.out.1.size (fun j hj => by have := HW0.out.2; omega))
  rw [HW0.out.2] at hBz ⊢
  refine ⟨rfl, fun Av hAv => ⟨I', E', D', g', ni', ci', od', nd', cd', hV2, q1, fun hh => ?_, fun g2 off e hh => ?_⟩, hBz.trans (hal.mono (by have := hBz.size; have := HW0.out.2; omega))⟩
  · have := hAv _ hh
    omega
  · have := hAv _ hh
    have := q3 g2 off e
    omega
end Go.Proofs.YtdjcidackkogjaaGreatDoor

/- What stands and begin of layer 7 (parts) do, told of a finder whole; what a mode that is set leaves. Condition: at most 900,000 parts.
What follow of layer 7 (parts) leaves of a finder in memory: the parts as they are behind one byte more. Condition: texts of at most a hundred thousand bytes. -/
import Derived.Test.YtiklnlkakhghdaaGreatDoorPtC
import Derived.Deep.RegionWith
namespace Go.Proofs.YtiklnlkakhghdaaGreatDoor
open Go.RowKit
set_option linter.unusedVariables false

/-- So many frames can be read in a row. -/
structure FrR (w : World) (ao : Option Addr) (len : Nat) (fl : List Fr) : Prop where
  len : len = fl.length
  cells : ∀ i x, fl[i]? = some x → ∃ b off, ao = some ⟨b, off, none⟩ ∧ b < w.heap.size ∧ w.cell? ⟨b, off + i * 2, none⟩ = some (.int .i64 (x.1 : Int)) ∧ w.cell? ⟨b, off + i * 2 + 1, none⟩ = some (.int .i64 (x.2 : Int))
theorem FrR.frm {p : Nat → Prop} {w w' : World} {ao : Option Addr} {len : Nat} {fl : List Fr} (h : FrR w ao len fl) (hf : Frm p w w') (hp : ∀ b off, ao = some ⟨b, off, none⟩ → ¬ p b) : FrR w' ao len fl :=
  ⟨h.len, fun i x hx => by
    obtain ⟨b, off, h1, h2, h3, h4⟩ := h.cells i x hx
    exact ⟨b, off, h1, Nat.lt_of_lt_of_le h2 hf.size, (hf.cell h2 (hp b off h1)).trans h3, (hf.cell h2 (hp b off h1)).trans h4⟩⟩

section
variable (w : World)
theorem stands_fd (fb : Nat) (s : ByteArray) (pv : Value) (oa : Option Addr) (z oc : Nat) (L : List Prt) (O : List Nat) (o : Nat) (p : Prt) (ao : Option Addr) (len fcap : Nat) (fl : List Fr) (hF : Fd w fb s pv L (.slice oa z oc) (O ++ [o])) (hp : L[o]? = some p) (hfl : FrR w ao len fl) (hlen : len ≤ 1000000) (hO : O.length ≤ 1000000)
    (x : Bool) (hx : Hid (x = standsB fl (O.length + 1) p.frm)) :
    Calls Tryz.prog 140 #[.pointer (some ⟨fb, 0, none⟩), .slice ao len fcap] w fun e w' => e = .returned (.bool x) ∧ ∃ q, w' = w.drewN q := by
  obtain ⟨pb, pcap, ob, ocap, rfl, hov, hc, h3, hfz, hoc, hol, hpc, npf, nof, npo⟩ := hF.last hp
  cases hov
  have c1 := hF.obj.cell 1
  have c2 := hF.obj.cell 2
  simp at c1 c2
  have hl := hfl.len
  by_cases h : O.length + 1 ≤ fl.length
  · obtain ⟨b, off, rfl, _, _, h5⟩ := hfl.cells O.length fl[O.length] (List.getElem?_eq_getElem (by omega))
    refine stands_core w fb pb _ pcap ob _ O.length oc o p.frm b off len fcap (Lib.hid rfl) hO hol hlen c1 c2 h3 (hc 1 _ rfl) _ x (.inr ⟨by omega, (fl[O.length]).2, rfl, h5, ?_⟩)
    rw [hx.out]
    unfold standsB
    rw [Nat.add_sub_cancel, List.getElem?_eq_getElem (by omega)]
    simp [h]
  · refine stands_core w fb pb _ pcap ob _ O.length oc o p.frm 0 0 len fcap (Lib.hid rfl) hO hol hlen c1 c2 h3 (hc 1 _ rfl) ao x (.inl ⟨by omega, ?_⟩)
    rw [hx.out]
    unfold standsB
    simp [h]
theorem begin_fd (fb : Nat) (s : ByteArray) (pv ov : Value) (L : List Prt) (O : List Nat) (m k : Nat) (up : Int) (n : Nat) (hF : Fd w fb s pv L ov O) (hn : n = L.length) (hL : L.length ≤ 900000) (hO : O.length ≤ 900000)
    (hup : (O = [] ∧ up = -1) ∨ ∃ O' o, O = O' ++ [o] ∧ up = (o : Nat)) :
    Calls Tryz.prog 143 #[.pointer (some ⟨fb, 0, none⟩), .agg #[.int .i64 (m : Int), .int .i64 (k : Int)]] w fun e w' => (∃ v, e = .returned v) ∧ FdTo w fb s pv ov (L ++ [⟨m, k, 0, up, false⟩]) (O ++ [n]) w' := by
  subst hn
  obtain ⟨pa, pc, rfl⟩ := owns_slice hF.parts
  obtain ⟨oa, oc, rfl⟩ := owns_slice hF.opens
  refine begin_core w fb L.length O.length s pa oa pc oc L O m k up hF (Lib.hid rfl) (Lib.hid rfl) hL hO ?_
  rcases hup with ⟨rfl, rfl⟩ | ⟨O', o, rfl, rfl⟩
  · exact .inl ⟨rfl, rfl⟩
  · obtain ⟨ob, ocap, hv, _, _, _, _⟩ := owns_nil hF.opens (by simp)
    cases hv
    refine .inr ⟨by simp, ob, O'.length, rfl, ?_, by simp, ?_⟩
    · rw [IntWalk.i64_in _ (by omega)]
      simp
    · have := hF.opens.cells (g := ob) rfl O'.length (.int .i64 (o : Int)) (by simp [cellsO])
      rwa [Addr.add_lit, Nat.zero_add] at this
/-- What is left of a finder, the mode of one of its parts being set. -/
theorem moded {w W : World} {fb : Nat} {s : ByteArray} {pb pcap n : Nat} {ov : Value} {L : List Prt} {O : List Nat} {o : Nat} {p : Prt} (hF : Fd w fb s (.slice (some ⟨pb, 0, none⟩) n pcap) L ov O) (hn : n = L.length) (hp : L[o]? = some p)
    (hW : Frm (fun _ => False) w W) (m : Nat) :
    FdTo w fb s (.slice (some ⟨pb, 0, none⟩) n pcap) ov (L.set o { p with mode := m }) O (W.setCell ⟨pb, o * 5, none⟩ (.int .i64 (m : Int))) := by
  subst hn
  have hl : o < L.length := (List.getElem?_eq_some_iff.1 hp).1
  have hFW := hF.still hW
  have npf : pb ≠ fb := fun e => hF.np (by rw [e]; rfl)
  have h1 := owns_set hFW.parts (o * 5) (.int .i64 (m : Int)) (by rw [cellsP_length]; omega)
  have e1 : (cellsP L).set (o * 5) (.int .i64 (m : Int)) = cellsP (L.set o { p with mode := m }) := by
    have := cellsP_set (c := 0) (v := .int .i64 (m : Int)) (q := { p with mode := m }) hp ⟨rfl, by omega⟩
    rw [this, Nat.add_zero]
  rw [e1] at h1
  have F1 : Frm (fun k => k = pb) W (W.setCell ⟨pb, o * 5, none⟩ (.int .i64 (m : Int))) := (Frm.refl _ W).put _ _
  refine ⟨.slice (some ⟨pb, 0, none⟩) L.length pcap, ov, ⟨hFW.obj.frm F1 (fun e => npf e.symm), ?_, ?_, hF.np, hF.no, hF.ne⟩, ?_, fun k hk => .inl hk⟩
  · rw [List.length_set]
    exact h1
  · exact own_frm F1 hFW.opens (fun k hk e => hF.ne pb rfl (by rw [← e]; exact hk))
  · exact Frm.setCell (hW.mono (fun _ _ h => absurd h id)) _ (.inl (.inr (.inl rfl))) _
end
end Go.Proofs.YtiklnlkakhghdaaGreatDoor
namespace Go.Proofs.YtiklnlkakhghdaaGreatDoor
open Go.RowKit
set_option linter.unusedVariables false

theorem stands_no {s : ByteArray} {k i j m f : Nat} {T R : List Fr} (hS : Sim T ((nt s k).drop j)) (hN : nt s (k + 1) = T ∨ ∃ n, nt s (k + 1) = (n, k) :: T) (hD : (nt s k).drop i = (m, f) :: R) (hi : i < j) : standsB (nt s (k + 1)).reverse (R.length + 1) f = false := by
  unfold standsB
  rw [decide_eq_false_iff_not]
  rintro ⟨h1, h2⟩
  obtain ⟨hp, _, _⟩ := drop_pres hD
  have hlt := pres_lt hp
  obtain ⟨x, hx, hxf⟩ := Option.map_eq_some_iff.1 h2
  have hm : x ∈ nt s (k + 1) := by
    have := List.mem_of_getElem? hx
    simpa using this
  have h3 : pres s (k + 1) f = true := pres_iff.2 ⟨x.1, by rw [← hxf]; exact hm⟩
  obtain ⟨n, hn⟩ := (stay hS hN hlt).1 h3
  have hpw := nt_pw s k
  rw [← List.take_append_drop i (nt s k), hD] at hpw
  have hpw2 := (List.pairwise_append.1 hpw).2.1
  have e : (nt s k).drop j = R.drop (j - (i + 1)) := by
    rw [show j = i + ((j - (i + 1)) + 1) by omega, ← List.drop_drop, hD, List.drop_succ_cons]
    congr 1
    omega
  rw [e] at hn
  have := (List.pairwise_cons.1 hpw2).1 _ (List.mem_of_mem_drop hn)
  simp at this
/-- The frames behind the byte, by those that stayed. -/
theorem fl_some {s : ByteArray} {k j m f : Nat} {T R : List Fr} (hS : Sim T ((nt s k).drop j)) (hN : nt s (k + 1) = T ∨ ∃ n, nt s (k + 1) = (n, k) :: T) (hD : (nt s k).drop j = (m, f) :: R) : T = (md s (k + 1) f, f) :: R ∧ (nt s (k + 1)).reverse[R.length]? = some (md s (k + 1) f, f) ∧ standsB (nt s (k + 1)).reverse (R.length + 1) f = true := by
  obtain ⟨hp, _, _⟩ := drop_pres hD
  have hT : ∃ n, T = (n, f) :: R := by
    rw [hD] at hS
    rcases hS with rfl | ⟨m1, n1, f1, r1, h1, rfl, _⟩
    · exact ⟨m, rfl⟩
    · cases h1
      exact ⟨n1, rfl⟩
  obtain ⟨n, rfl⟩ := hT
  have hmd : md s (k + 1) f = n := by
    rcases hN with h | ⟨n2, h⟩
    · exact md_at (A := []) h
    · exact md_at (A := [(n2, k)]) h
  have hg : (nt s (k + 1)).reverse[R.length]? = some (n, f) := by
    rcases hN with h | ⟨n2, h⟩ <;> rw [h] <;> simp
  rw [hmd]
  refine ⟨rfl, hg, ?_⟩
  unfold standsB
  rw [Nat.add_sub_cancel, hg]
  have hl : R.length < (nt s (k + 1)).reverse.length := (List.getElem?_eq_some_iff.1 hg).1
  simp only [Option.map_some, decide_eq_true_iff, and_true]
  omega

/-- At the head of the loop: so many of the open ones are still to be shut. -/
def FoRel (s : ByteArray) (fb : Nat) (pv ov : Value) (k j : Nat) (w : World) (g : Nat) (wr : World) : Prop :=
  ∃ pv2 oa z oc, Fd wr fb s pv2 (LKi s k (j - g)) (.slice oa z oc) (OKi s k (j - g)) ∧ Frm (ffoot fb pv ov) w wr ∧ (∀ b, ffoot fb pv2 (.slice oa z oc) b → ffoot fb pv ov b ∨ w.heap.size ≤ b) ∧ g ≤ j

section
variable (w : World)
set_option maxRecDepth 100000 in
set_option maxHeartbeats 4000000 in
theorem follow_any (fb : Nat) (s : ByteArray) (pv ov : Value) (k k1 : Nat) (hk1 : Hid (k1 = k + 1)) (ao : Option Addr) (len fcap : Nat) (hF : Fd w fb s pv (LK s k) ov (OKi s k 0)) (hk : k < s.size) (hs : s.size ≤ 100000) (hfl : FrR w ao len (nt s (k + 1)).reverse) (hfr : ∀ b off, ao = some ⟨b, off, none⟩ → ¬ ffoot fb pv ov b) :
    Calls Tryz.prog 119 #[.pointer (some ⟨fb, 0, none⟩), .slice ao len fcap, .int .i64 (k1 : Int)] w fun e w' => (∃ v, e = .returned v) ∧ FdTo w fb s pv ov (LK s (k + 1)) (OKi s (k + 1) 0) w' := by
  obtain ⟨j, T, hj, hS, hN0⟩ := nt_tr s k
  have hN := tr_or hN0
  have hntl := nt_len s k
  have hll : len ≤ 100001 := by have h1 := hfl.len; have h2 := nt_len s (k + 1); simp at h1; omega
  have HF := Lib.hid hF
  have HS := Lib.hid hS
  have HN := Lib.hid hN
  have HN0 := Lib.hid hN0
  have HFL := Lib.hid hfl
  have HFR := Lib.hid hfr
  clear hF hS hN hN0 hfl hfr
  go_enter Tryz.func119, Tryz.ntmps119
  go_wp2
  go_loopg [] j (fun g wr => FoRel s fb pv ov k j w g wr)
  case atStart =>
    have h := HF.out
    obtain ⟨oa, oc, rfl⟩ := owns_slice h.opens
    refine ⟨pv, oa, _, oc, ?_, Frm.refl _ _, fun b hb => .inl hb, Nat.le_refl _⟩
    rw [Nat.sub_self, LKi_zero]
    exact h
  case round =>
    obtain ⟨pv2, oa, z, oc, hF2, hFr2, hk2, hgj⟩ := hrel
    have hflr := HFL.out.frm hFr2 HFR.out
    have c2 : wr.cell? ⟨fb, 2, none⟩ = some (.slice oa z oc) := hF2.obj.cell 2
    have hzo : z = (OKi s k (j - gk)).length := by
      have h1 := hF2.opens
      rcases h1.2 with ⟨h2, h3⟩ | ⟨_, _, _, h2, _⟩
      · cases h2; exact h3.symm
      · cases h2; rfl
    rw [OKi_len] at hzo
    have HFr2 := Lib.hid hFr2
    have HK2 := Lib.hid hk2
    have HFLR := Lib.hid hflr
    clear hFr2 hk2 hflr
    by_cases hg0 : gk = 0
    · -- all that the byte shut is shut
      subst hg0
      rw [Nat.sub_zero] at hF2 hzo
      cases hD : (nt s k).drop j with
      | nil =>
        have hz0 : z = 0 := by have := congrArg List.length hD; simp at this; omega
        have hO : OKi s k j = [] := by unfold OKi; rw [hD]; rfl
        have hL : LKi s k j = (bornL s k).map (prtK s (k + 1)) := LK_none HS.out HN.out hD
        rw [hO, hL] at hF2
        subst hz0
        have HD := Lib.hid hD
        clear hzo hD hO hL
        have hT0 : T = [] := by
          have := (sim_places HS.out).1
          rw [HD.out] at this
          simpa using this
        rcases HN0.out with hn | ⟨m3, hn, ho, _⟩
        · -- nothing opens
          have hln : len = 0 := by have := HFLR.out.len; rw [hn, hT0] at this; exact this
          subst hln
          have hnb := not_born HS.out hn
          have HFF := Lib.hid hF2
          clear hF2
          have HNN := Lib.hid hn
          have HNB := Lib.hid hnb
          have HT0 := Lib.hid hT0
          clear hn hnb hT0
          go_wp2
          refine bodyPost_end (results_none rfl _ _ _) rfl ?_
          refine ⟨⟨_, rfl⟩, pv2, .slice oa 0 oc, ?_, HFr2.out, HK2.out⟩
          rw [LK_next, if_neg (by rw [HNB.out]; simp), List.append_nil]
          have e : OKi s (k + 1) 0 = [] := by unfold OKi; rw [HNN.out, HT0.out]; rfl
          rw [e]
          exact HFF.out
        · -- a frame opens
          have hln : len = 1 := by have := HFLR.out.len; rw [hn, hT0] at this; exact this
          subst hln
          obtain ⟨hb, hp, hbl⟩ := is_born hn ho
          obtain ⟨b, off, rfl, hblt, q0, q1⟩ := HFLR.out.cells 0 (m3, k) (by rw [hn, hT0]; rfl)
          simp only [Nat.zero_mul, Nat.add_zero] at q0 q1
          have hup : upI s k = -1 := by unfold upI; rw [hbl, hT0]
          rw [hup] at hp
          have hlen : ((bornL s k).map (prtK s (k + 1))).length ≤ 900000 := by have := bornL_len s k; simp; omega
          have HBE := Lib.hid (fun W hW => begin_fd W fb s pv2 (.slice oa 0 oc) _ [] m3 k (-1) _ (hF2.still hW) rfl hlen (by simp) (.inl ⟨rfl, rfl⟩))
          have HNN := Lib.hid hn
          have HT0 := Lib.hid hT0
          have HB := Lib.hid hb
          have HP := Lib.hid hp
          clear hF2 hn hT0 hb hp hbl hup hlen
          go_wp2_with fail
          refine (HBE.out _ (Frm.refl _ _)).mono ?_
          rintro e w3 ⟨⟨v, rfl⟩, hT⟩
          go_wp2
          refine bodyPost_end (results_none rfl _ _ _) rfl ?_
          refine ⟨⟨_, rfl⟩, ?_⟩
          rw [LK_next, if_pos HB.out, HP.out]
          have e : OKi s (k + 1) 0 = [] ++ [((bornL s k).map (prtK s (k + 1))).length] := by
            unfold OKi
            rw [HNN.out, HT0.out]
            simp [idx]
          rw [e]
          exact FdTo.trans HFr2.out HK2.out hT
      | cons a R =>
        obtain ⟨m, f⟩ := a
        obtain ⟨hpr, hmd, hjl⟩ := drop_pres hD
        obtain ⟨hT, hfg, hst⟩ := fl_some HS.out HN.out hD
        have hRl : R.length + 1 = (nt s k).length - j := by have := congrArg List.length hD; simp at this; omega
        have hOl := OKi_last hD
        have hOn : (OKi s k (j + 1)).length = R.length := by rw [OKi_len]; omega
        have hg := LKi_get hD
        have hLs := LK_some HS.out HN.out hD
        rw [hOl] at hF2
        obtain ⟨b, off, rfl, hblt, q0, q1⟩ := HFLR.out.cells R.length _ hfg
        simp only at q0 q1
        have hRlt : R.length < len := by
          have h1 := (List.getElem?_eq_some_iff.1 hfg).1
          have := HFLR.out.len
          omega
        have HSTA := Lib.hid (fun W hW => stands_fd W fb s pv2 oa z oc _ _ _ _ (some ⟨b, off, none⟩) len fcap _ (hF2.still hW) hg (HFLR.out.frm hW (fun _ _ _ h => h)) (by omega) (by omega) true (Lib.hid (by rw [hOn, (prtK_frm s k f).1]; exact hst.symm)))
        obtain ⟨pb, pcap, ob, ocap, rfl, hov, hc, h3, hfz, hoc, hol, hpc, npf, nof, npo⟩ := hF2.last hg
        obtain ⟨rfl, hz2, rfl⟩ : oa = some ⟨ob, 0, none⟩ ∧ z = (OKi s k (j + 1)).length + 1 ∧ oc = ocap := by simpa using hov
        clear hov
        rw [hOn] at h3 hz2
        have c1 := hF2.obj.cell 1
        simp at c1
        obtain ⟨n, hn⟩ : ∃ n, (LKi s k j).length = n := ⟨_, rfl⟩
        have HLA := Lib.hid (fun (W : World) (hW : Frm (fun _ => False) wr W) => last_any W fb pb n pcap ob z R.length oc (idx s f) (Lib.hid hz2) (by omega) (by rw [← hn]; exact (hF2.still hW).obj.cell 1) ((hF2.still hW).obj.cell 2) ((hW.cell (by
          have := hF2.lt ob (.inr (.inr rfl))
          exact this) (fun h => h)).trans h3) (by omega))
        have HMO := Lib.hid (fun W hW => moded (W := W) hF2 rfl hg hW (cnt (md s (k + 1) f)))
        rw [hLs] at HMO
        have p0 := hc 0 _ rfl
        have g0 := hfz (idx s f * 5)
        rw [Nat.add_zero] at p0
        have hF20 := HFLR.out
        obtain ⟨M, hM⟩ : ∃ M, md s (k + 1) f = M := ⟨_, rfl⟩
        rw [hM] at q0 HMO
        obtain ⟨o, ho⟩ : ∃ o, idx s f = o := ⟨_, rfl⟩
        rw [ho] at HLA HMO p0 g0
        have hzr : z = R.length + 1 := by omega
        have hrl : R.length ≤ 100000 := by omega
        obtain ⟨r, hr⟩ : ∃ r, R.length = r := ⟨_, rfl⟩
        rw [hr] at q0 q1 hRlt hzr hrl
        rw [hn] at HMO
        have e1 : IntKind.i64.wrap ((z : Int) - 1) = (r : Int) := by rw [IntWalk.i64_in _ (by omega)]; omega
        have t0 : (0 : Int) < (z : Int) := by omega
        have t1 : (r : Int) < (len : Int) := by omega
        have t2 : (0 : Int) ≤ (r : Int) := by omega
        have HCO := Lib.hid (fun W => counted_any W M)
        have hqb : ∀ W, Frm (fun _ => False) wr W → W.cell? ⟨b, off + r * 2, none⟩ = some (.int .i64 (M : Int)) := fun W hW => (hW.cell hblt (fun h => h)).trans q0
        have hob : ∀ W, Frm (fun _ => False) wr W → W.cell? ⟨pb, o * 5, none⟩ = some (.int .i64 ((prtK s k f).mode : Int)) ∧ W.frozen? ⟨pb, o * 5, none⟩ = false ∧ W.cell? ⟨fb, 2, none⟩ = some (.slice (some ⟨ob, 0, none⟩) z oc) := by
          intro W hW
          have h1 := hF2.still hW
          refine ⟨(hW.cell (by have := hF2.lt pb (.inr (.inl rfl)); exact this) (fun h => h)).trans p0, owns_frozen h1.parts _, ?_⟩
          have := h1.obj.cell 2
          simp at this
          exact this
        have HQB := Lib.hid hqb
        have HOB := Lib.hid hob
        have HR := Lib.hid hr
        have HZR := Lib.hid hzr
        have HT := Lib.hid hT
        have HO := Lib.hid ho
        have HNL := Lib.hid hn
        have HOL := Lib.hid hOl
        have HON := Lib.hid hOn
        have HD := Lib.hid hD
        have HRL := Lib.hid hRl
        have hff : ∀ b', ffoot fb (.slice (some ⟨pb, 0, none⟩) n pcap) (.slice (some ⟨ob, 0, none⟩) z oc) b' → ffoot fb pv ov b' ∨ w.heap.size ≤ b' := fun b' h => HK2.out b' h
        have HFF := Lib.hid hff
        clear hF2 hF20 hzo hz2 hT hn ho hr hOl hOn hg hLs hpr hmd hjl hfg hst hRl hol hpc hoc hc h3 hfz c1 q0 q1 hM hqb hob hD hff p0 g0 hzr HK2
        go_wp2_with fail
        refine (HSTA.out _ (Frm.refl _ _)).mono ?_
        rintro e w3 ⟨rfl, q, rfl⟩
        obtain ⟨V, hV⟩ : ∃ V, V = wr.drewN q := ⟨_, rfl⟩
        have hVF : Frm (fun _ => False) wr V := by rw [hV]; exact (Frm.refl _ _).drewN q
        rw [← hV]
        clear hV c2
        obtain ⟨v0, vf, v2⟩ := HOB.out V hVF
        have vq := HQB.out V hVF
        go_wp2
        go_cut [] from 29 to 39 (fun wx => FdTo wr fb s (.slice (some ⟨pb, 0, none⟩) n pcap) (.slice (some ⟨ob, 0, none⟩) z oc) ((bornL s k).map (prtK s (k + 1))) (OKi s k (j + 1) ++ [o]) wx)
        case first =>
          go_region_with (first
            | (go_at_call 142; refine (HLA.out _ (by first | exact hVF.drew | exact hVF)).mono ?_; rintro e w4 ⟨rfl, q4, rfl⟩)
            | (go_at_call 141; refine (HCO.out _).mono ?_; rintro e w5 ⟨rfl, rfl⟩))
          all_goals
            go_wp2_with fail
            go_meet
            case rel => exact HMO.out _ (hVF.drewN _)
        case rest =>
          have HWC := Lib.hid (FdTo.trans HFr2.out HFF.out hcut)
          clear hcut v0 vf v2 vq
          rcases HN0.out with hn | ⟨m3, hn, hop, _⟩
          · -- nothing opens
            have hln : len = r + 1 := by have := HFLR.out.len; rw [hn, HT.out] at this; simp at this; rw [HR.out] at this; exact this
            have t5 : ¬ (z : Int) < (len : Int) := by have := HZR.out; omega
            have HNN := Lib.hid hn
            have HNB := Lib.hid (not_born HS.out hn)
            clear hn hln
            go_wp2
            refine bodyPost_end (results_none rfl _ _ _) rfl ?_
            refine ⟨⟨_, rfl⟩, ?_⟩
            rw [LK_next, if_neg (by rw [HNB.out]; simp), List.append_nil]
            have e : OKi s (k + 1) 0 = OKi s k (j + 1) ++ [o] := by
              rw [← HO.out, ← HOL.out, ← OK_same HS.out]
              unfold OKi
              rw [List.drop_zero, HNN.out]
            rw [e]
            exact HWC.out
          · -- a frame opens
            have hln : len = r + 1 + 1 := by have := HFLR.out.len; rw [hn, HT.out] at this; simp at this; rw [HR.out] at this; exact this
            have t5 : (z : Int) < (len : Int) := by have := HZR.out; omega
            obtain ⟨hb, hp, hbl⟩ := is_born hn hop
            have hup : upI s k = (o : Nat) := by unfold upI; rw [hbl, HT.out]; simp [HO.out]
            rw [hup] at hp
            obtain ⟨pv3, ov3, hF3, hFr3, hk3⟩ := HWC.out
            have hfl3 := HFL.out.frm hFr3 HFR.out
            obtain ⟨b', off', hbe, hblt', q0, q1⟩ := hfl3.cells z (m3, k) (by rw [HZR.out, ← HR.out, hn, HT.out]; simp)
            cases hbe
            simp only at q0 q1
            have hlen : ((bornL s k).map (prtK s (k + 1))).length ≤ 900000 := by have := bornL_len s k; simp; omega
            have hOl2 : (OKi s k (j + 1) ++ [o]).length ≤ 900000 := by
              have h1 := HON.out
              have h2 := HR.out
              rw [List.length_append, h1, h2]
              simp
              omega
            have HBE := Lib.hid (fun W hW => begin_fd W fb s pv3 ov3 _ _ m3 k (o : Nat) _ (hF3.still hW) rfl hlen hOl2 (.inr ⟨_, _, rfl, rfl⟩))
            have HNN := Lib.hid hn
            have HB := Lib.hid hb
            have HP := Lib.hid hp
            have HFr3 := Lib.hid hFr3
            have HK3 := Lib.hid hk3
            clear hF3 hFr3 hk3 hfl3 hn hb hp hbl hup hlen hOl2 hln
            go_wp2_with fail
            refine (HBE.out _ (Frm.refl _ _)).mono ?_
            rintro e w3 ⟨⟨v, rfl⟩, hT⟩
            go_wp2
            refine bodyPost_end (results_none rfl _ _ _) rfl ?_
            refine ⟨⟨_, rfl⟩, ?_⟩
            rw [LK_next, if_pos HB.out, HP.out]
            have e : OKi s (k + 1) 0 = OKi s k (j + 1) ++ [o] ++ [((bornL s k).map (prtK s (k + 1))).length] := by
              rw [← HO.out, ← HOL.out, ← OK_same HS.out]
              unfold OKi
              rw [List.drop_zero, HNN.out]
              simp [idx]
            rw [e]
            exact FdTo.trans HFr3.out HK3.out hT
    · -- one more is shut
      have hlt : j - gk < j := by omega
      cases hD : (nt s k).drop (j - gk) with
      | nil => exact absurd hD (by intro h; have := congrArg List.length h; simp at this; omega)
      | cons a R =>
        obtain ⟨m, f⟩ := a
        obtain ⟨hpr, hmd, hjl⟩ := drop_pres hD
        have hst := stands_no HS.out HN.out hD hlt
        have hRl : R.length + 1 = (nt s k).length - (j - gk) := by have := congrArg List.length hD; simp at this; omega
        have hOl := OKi_last hD
        have hOn : (OKi s k (j - gk + 1)).length = R.length := by rw [OKi_len]; omega
        have hg := LKi_get hD
        have hsu := LKi_succ hD
        rw [hOl] at hF2
        have hfk := (prtK_frm s k f).1
        have HSTA := Lib.hid (fun W hW => stands_fd W fb s pv2 oa z oc _ _ _ _ ao len fcap _ (hF2.still hW) hg (HFLR.out.frm hW (fun _ _ _ h => h)) (by omega) (by omega) false (Lib.hid (by rw [hOn, hfk]; exact hst.symm)))
        have HEND := Lib.hid (fun W hW => end_any W fb s pv2 (.slice oa z oc) _ _ _ _ (k + 1) false (hF2.still hW) hg hs (by rw [hfk]; have := pres_lt hpr; omega) (by omega))
        rw [hsu, ← hk1.out] at HEND
        have t0 : (0 : Int) < (z : Int) := by omega
        have HE := Lib.hid (show j - gk + 1 = j - (gk - 1) by omega)
        have hgg : gk - 1 < gk := by omega
        clear hF2 hzo hD hpr hmd hjl hst hRl hOl hOn hg hsu hfk
        go_wp2_with fail
        refine (HSTA.out _ (Frm.refl _ _)).mono ?_
        rintro e w3 ⟨rfl, q, rfl⟩
        obtain ⟨V, hV⟩ : ∃ V, V = wr.drewN q := ⟨_, rfl⟩
        have hVF : Frm (fun _ => False) wr V := by rw [hV]; exact (Frm.refl _ _).drewN q
        rw [← hV]
        clear hV c2
        go_wp2_with fail
        refine (HEND.out _ hVF).mono ?_
        rintro e w4 ⟨⟨v, rfl⟩, hT⟩
        go_wp2
        go_roundg (gk - 1)
        case measure => exact hgg
        case rel =>
          obtain ⟨pv3, ov3, h1, h2, h3⟩ := FdTo.trans HFr2.out HK2.out (FdTo.trans (hVF.mono (fun _ _ h => absurd h id)) (fun _ h => .inl h) hT)
          rw [HE.out] at h1
          obtain ⟨oa3, oc3, rfl⟩ := owns_slice h1.opens
          exact ⟨pv3, oa3, _, oc3, h1, h2, h3, by omega⟩
end
end Go.Proofs.YtiklnlkakhghdaaGreatDoor

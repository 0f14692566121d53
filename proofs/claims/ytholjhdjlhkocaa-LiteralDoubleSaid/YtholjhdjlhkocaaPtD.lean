/- What stands and begin of layer 7 (parts) do, told of a finder whole; what a mode that is set leaves. Condition: at most 900,000 parts. -/
import Derived.Test.YtholjhdjlhkocaaPtC
namespace Go.Proofs.Ytholjhdjlhkocaa
open Go.RowKit
set_option linter.unusedVariables false

/-- So many frames can be read in a row. -/
structure FrR (w : World) (ao : Option Addr) (len : Nat) (fl : List Fr) : Prop where
  len : len = fl.length
  cells : ∀ i x, fl[i]? = some x → ∃ b off, ao = some ⟨b, off, none⟩ ∧ b < w.heap.size ∧ w.cell? ⟨b, off + i * 2, none⟩ = some (.int .i64 (x.1 : Int)) ∧ w.cell? ⟨b, off + i * 2 + 1, none⟩ = some (.int .i64 (x.2 : Int))
theorem FrR.frm {p : Nat → Prop} {w w' : World} {ao : Option Addr} {len : Nat} {fl : List Fr} (h : FrR w ao len fl) (hf : Frm p w w') (hp : ∀ b off, ao = some ⟨b, off, none⟩ → ¬ p b) : FrR w' ao len fl :=
  ⟨h.len, fun i x hx => by
    obtain ⟨b, off, h1, h2, h3, h4⟩ := h.cells i x hx
    exact ⟨b, off, h1, Nat.lt_of_lt_of_le h2 hf.size, (hf.cell h2 (hp b off h1)).trans h3, (hf.cell h2 (hp b off h1)).trans h4⟩⟩

section
variable (w : World)
theorem stands_fd (fb : Nat) (s : ByteArray) (pv : Value) (oa : Option Addr) (z oc : Nat) (L : List Prt) (O : List Nat) (o : Nat) (p : Prt) (ao : Option Addr) (len fcap : Nat) (fl : List Fr) (hF : Fd w fb s pv L (.slice oa z oc) (O ++ [o])) (hp : L[o]? = some p) (hfl : FrR w ao len fl) (hlen : len ≤ 1000000) (hO : O.length ≤ 1000000)
    (x : Bool) (hx : Hid (x = standsB fl (O.length + 1) p.frm)) :
    Calls Try.prog 70 #[.pointer (some ⟨fb, 0, none⟩), .slice ao len fcap] w fun e w' => e = .returned (.bool x) ∧ ∃ q, w' = w.drewN q := by
  obtain ⟨pb, pcap, ob, ocap, rfl, hov, hc, h3, hfz, hoc, hol, hpc, npf, nof, npo⟩ := hF.last hp
  cases hov
  have c1 := hF.obj.cell 1
  have c2 := hF.obj.cell 2
  simp at c1 c2
  have hl := hfl.len
  by_cases h : O.length + 1 ≤ fl.length
  · obtain ⟨b, off, rfl, _, _, h5⟩ := hfl.cells O.length fl[O.length] (List.getElem?_eq_getElem (by omega))
    refine stands_core w fb pb _ pcap ob _ O.length oc o p.frm b off len fcap (Lib.hid rfl) hO hol hlen c1 c2 h3 (hc 1 _ rfl) _ x (.inr ⟨by omega, (fl[O.length]).2, rfl, h5, ?_⟩)
    rw [hx.out]
    unfold standsB
    rw [Nat.add_sub_cancel, List.getElem?_eq_getElem (by omega)]
    simp [h]
  · refine stands_core w fb pb _ pcap ob _ O.length oc o p.frm 0 0 len fcap (Lib.hid rfl) hO hol hlen c1 c2 h3 (hc 1 _ rfl) ao x (.inl ⟨by omega, ?_⟩)
    rw [hx.out]
    unfold standsB
    simp [h]
theorem begin_fd (fb : Nat) (s : ByteArray) (pv ov : Value) (L : List Prt) (O : List Nat) (m k : Nat) (up : Int) (n : Nat) (hF : Fd w fb s pv L ov O) (hn : n = L.length) (hL : L.length ≤ 900000) (hO : O.length ≤ 900000)
    (hup : (O = [] ∧ up = -1) ∨ ∃ O' o, O = O' ++ [o] ∧ up = (o : Nat)) :
    Calls Try.prog 73 #[.pointer (some ⟨fb, 0, none⟩), .agg #[.int .i64 (m : Int), .int .i64 (k : Int)]] w fun e w' => (∃ v, e = .returned v) ∧ FdTo w fb s pv ov (L ++ [⟨m, k, 0, up, false⟩]) (O ++ [n]) w' := by
  subst hn
  obtain ⟨pa, pc, rfl⟩ := owns_slice hF.parts
  obtain ⟨oa, oc, rfl⟩ := owns_slice hF.opens
  refine begin_core w fb L.length O.length s pa oa pc oc L O m k up hF (Lib.hid rfl) (Lib.hid rfl) hL hO ?_
  rcases hup with ⟨rfl, rfl⟩ | ⟨O', o, rfl, rfl⟩
  · exact .inl ⟨rfl, rfl⟩
  · obtain ⟨ob, ocap, hv, _, _, _, _⟩ := owns_nil hF.opens (by simp)
    cases hv
    refine .inr ⟨by simp, ob, O'.length, rfl, ?_, by simp, ?_⟩
    · rw [IntWalk.i64_in _ (by omega)]
      simp
    · have := hF.opens.cells (g := ob) rfl O'.length (.int .i64 (o : Int)) (by simp [cellsO])
      rwa [Addr.add_lit, Nat.zero_add] at this
/-- What is left of a finder, the mode of one of its parts being set. -/
theorem moded {w W : World} {fb : Nat} {s : ByteArray} {pb pcap n : Nat} {ov : Value} {L : List Prt} {O : List Nat} {o : Nat} {p : Prt} (hF : Fd w fb s (.slice (some ⟨pb, 0, none⟩) n pcap) L ov O) (hn : n = L.length) (hp : L[o]? = some p)
    (hW : Frm (fun _ => False) w W) (m : Nat) :
    FdTo w fb s (.slice (some ⟨pb, 0, none⟩) n pcap) ov (L.set o { p with mode := m }) O (W.setCell ⟨pb, o * 5, none⟩ (.int .i64 (m : Int))) := by
  subst hn
  have hl : o < L.length := (List.getElem?_eq_some_iff.1 hp).1
  have hFW := hF.still hW
  have npf : pb ≠ fb := fun e => hF.np (by rw [e]; rfl)
  have h1 := owns_set hFW.parts (o * 5) (.int .i64 (m : Int)) (by rw [cellsP_length]; omega)
  have e1 : (cellsP L).set (o * 5) (.int .i64 (m : Int)) = cellsP (L.set o { p with mode := m }) := by
    have := cellsP_set (c := 0) (v := .int .i64 (m : Int)) (q := { p with mode := m }) hp ⟨rfl, by omega⟩
    rw [this, Nat.add_zero]
  rw [e1] at h1
  have F1 : Frm (fun k => k = pb) W (W.setCell ⟨pb, o * 5, none⟩ (.int .i64 (m : Int))) := (Frm.refl _ W).put _ _
  refine ⟨.slice (some ⟨pb, 0, none⟩) L.length pcap, ov, ⟨hFW.obj.frm F1 (fun e => npf e.symm), ?_, ?_, hF.np, hF.no, hF.ne⟩, ?_, fun k hk => .inl hk⟩
  · rw [List.length_set]
    exact h1
  · exact own_frm F1 hFW.opens (fun k hk e => hF.ne pb rfl (by rw [← e]; exact hk))
  · exact Frm.setCell (hW.mono (fun _ _ h => absurd h id)) _ (.inl (.inr (.inl rfl))) _
end
end Go.Proofs.Ytholjhdjlhkocaa

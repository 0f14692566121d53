/- What doc of a reader of layer 10 (relex) returns: the new text's items and delimiters. Condition: texts of at most 900 bytes. -/
import Derived.Test.YtdjcidackkogjaaGreatDoorRg
import Derived.Test.YtdjcidackkogjaaGreatDoorRb

namespace Go.Proofs.YtdjcidackkogjaaGreatDoor
open Go Go.RowKit
set_option linter.unusedVariables false
set_option linter.unusedSectionVars false

def cellsDoc (T : ByteArray) (iv : Value) (E : Mk) (dv : Value) : Array Value := #[.string T, iv, .int .i64 (E.await : Int), .bool E.body, .int .i64 (E.frm : Int), .int .i64 (E.en : Int), dv]
theorem infoItD : (Tryz.prog.info? 82).map (fun i => (i.zero, i.size, i.bytes)) = some (some (.agg #[.int .i64 0, .int .i64 0, .int .i64 0, .bool false, .int .i64 0, .bool false, .int .i64 0, .int .i64 0]), 8, 64) := by kernel_rfl
theorem szIt : (Tryz.prog.info? 82).map (·.size) = some 8 := by kernel_rfl
theorem addr_plus (g off j : Nat) : (⟨g, off, none⟩ : Addr).add j = ⟨g, off + j, none⟩ := by
  unfold Addr.add
  split
  · rename_i h; subst h; rfl
  · rfl
theorem RdI.none {W : World} {n : Nat} {l : List (Tk × Mk)} (h : RdI W none n l) : n = 0 := by
  rw [h.len]
  cases l with
  | nil => rfl
  | cons q l =>
    obtain ⟨b, off, e, _⟩ := h.cells 0 q rfl
    cases e
theorem src_add {W : World} {oa : Option Addr} {n c : Nat} {xs : List Value} (h : Src W (.slice oa n c) n xs) (h0 : 0 < n) : ∃ ad, oa = some ad ∧ ∀ j v, xs[j]? = some v → W.cell? (ad.add j) = some v := by
  rcases h with ⟨_, h2, _⟩ | ⟨b, off, c', h1, h2, h3⟩
  · omega
  · injection h1 with e1 e2 e3
    exact ⟨⟨b, off, none⟩, e1, fun j v hj => by rw [addr_plus]; exact h3 j v hj⟩
theorem balloc {w0 w : World} (h : Below w0.heap.size w0 w) (o : Obj) : Below w0.heap.size w0 (w.alloc o) := h.alloc h.size o
theorem bset {w0 w : World} {b : Nat} (h : Below w0.heap.size w0 w) (hb : w0.heap.size ≤ b) (o : Nat) (u : Value) : Below w0.heap.size w0 (w.setCell ⟨b, o, none⟩ u) :=
  h.trans ((Frm.setCell (p := fun j => j = b) (Frm.refl _ w) o (.inl rfl) u).below h.size (fun j hj => by rw [hj]; exact hb))
theorem cellsD_dr (D : List Dl) (k : Nat) : cellsD (D.drop k) = (cellsD D).drop (k * 2) := by
  have := cellsD_seg (D := D) (a := k) (b := D.length) (Nat.le_refl _)
  rw [List.take_length] at this
  rw [this, List.take_of_length_le]
  rw [List.length_drop, cellsD_length]
  have : D.length * 2 - k * 2 = (D.length - k) * 2 := (Nat.sub_mul _ _ _).symm
  omega
def D3 (V W : World) (T : ByteArray) (m : Mk) (L : List Dl) (n : Nat) (v : Value) : Prop :=
  ∃ (bd : Nat) (oa : Option Addr) (oc : Nat), v = .pointer (some ⟨bd, 0, none⟩) ∧ Blk W bd (cellsDoc T (.slice none 0 0) m (.slice oa n oc)) 68 ∧ W.ownsRow V.heap.size 87 2 (.slice oa n oc) n (cellsD L) ∧ Below V.heap.size V W ∧ V.heap.size ≤ bd ∧ (∀ g, (Value.slice oa n oc).ownBlock = some g → g ≠ bd)

theorem frm_above {n : Nat} {a b : World} (h : Below n a b) : Frm (fun k => n ≤ k) a b := ⟨h.os, h.tape, h.output, h.size, fun i hi hp => h.block i (by omega)⟩
theorem own_less {w : World} {base base' : Nat} {e : TypeId} {size n : Nat} {v : Value} {xs : List Value} (h : w.ownsRow base e size v n xs) (hb : base' ≤ base) : w.ownsRow base' e size v n xs := by
  obtain ⟨h1, h2⟩ := h
  refine ⟨h1, ?_⟩
  rcases h2 with h | ⟨g, cap, cur, e1, e2, e3⟩
  · exact .inl h
  · exact .inr ⟨g, cap, cur, e1, Nat.le_trans hb e2, e3⟩
theorem d3_new {V X : World} {T : ByteArray} {mA : Nat} {mB : Bool} {mf me : Nat} {L : List Dl} {n base oc : Nat} {oa : Option Addr} (hb : Below V.heap.size V X) (hO : X.ownsRow base 87 2 (.slice oa n oc) n (cellsD L)) (hB : V.heap.size ≤ base) :
    D3 V (X.alloc (.cells #[.string T, .slice none 0 0, .int .i64 (mA : Int), .bool mB, .int .i64 (mf : Int), .int .i64 (me : Int), .slice oa n oc] 68)) T ⟨mA, mB, mf, me⟩ L n (.pointer (some ⟨X.heap.size, 0, none⟩)) :=
  ⟨X.heap.size, oa, oc, rfl, Blk.new _ _ _, own_alloc (own_less hO hB) _, balloc hb _, hb.size, fun g hg e => by have := own_lt hO g hg; omega⟩
theorem d3_seven {V X : World} {T : ByteArray} {mA : Nat} {mB : Bool} {mf me : Nat} {L : List Dl} {n base oc bd : Nat} {oa : Option Addr} {v0 v1 v2 v3 v4 v5 v6 : Value} (hb : Below V.heap.size V X) (hO : X.ownsRow base 87 2 (.slice oa n oc) n (cellsD L)) (kx : Blk X bd #[v0, v1, v2, v3, v4, v5, v6] 68) (hB : V.heap.size ≤ bd) (hB2 : bd < base) :
    D3 V (((((((X.setCell ⟨bd, 0, none⟩ (.string T)).setCell ⟨bd, 1, none⟩ (.slice none 0 0)).setCell ⟨bd, 2, none⟩ (.int .i64 (mA : Int))).setCell ⟨bd, 3, none⟩ (.bool mB)).setCell ⟨bd, 4, none⟩ (.int .i64 (mf : Int))).setCell ⟨bd, 5, none⟩ (.int .i64 (me : Int))).setCell ⟨bd, 6, none⟩ (.slice oa n oc)) T ⟨mA, mB, mf, me⟩ L n (.pointer (some ⟨bd, 0, none⟩)) := by
  have hF : Frm (fun k => k = bd) X (((((((X.setCell ⟨bd, 0, none⟩ (.string T)).setCell ⟨bd, 1, none⟩ (.slice none 0 0)).setCell ⟨bd, 2, none⟩ (.int .i64 (mA : Int))).setCell ⟨bd, 3, none⟩ (.bool mB)).setCell ⟨bd, 4, none⟩ (.int .i64 (mf : Int))).setCell ⟨bd, 5, none⟩ (.int .i64 (me : Int))).setCell ⟨bd, 6, none⟩ (.slice oa n oc)) :=
    ((((((Frm.put (Frm.refl _ X) 0 _).put 1 _).put 2 _).put 3 _).put 4 _).put 5 _).put 6 _
  have hne : ∀ g, (Value.slice oa n oc).ownBlock = some g → g ≠ bd := fun g hg e => by have := own_ge hO g hg; omega
  have k0 := kx.set 0 (.string T)
  have k1 := k0.set 1 (.slice none 0 0)
  have k2 := k1.set 2 (.int .i64 (mA : Int))
  have k3 := k2.set 3 (.bool mB)
  have k4 := k3.set 4 (.int .i64 (mf : Int))
  have k5 := k4.set 5 (.int .i64 (me : Int))
  have k6 := k5.set 6 (.slice oa n oc)
  refine ⟨bd, oa, oc, rfl, by simpa [cellsDoc] using k6, own_less (own_frm hF hO hne) (by omega), hb.trans (hF.below hb.size (fun j hj => by rw [hj]; exact hB)), hB, hne⟩

def DcL (L : List (Tk × Mk)) (f : Tk × Mk → Tk × Mk) (P N tail gi : Nat) (W : World) (v : Value) (wr : World) : Prop :=
  ∃ (i : Nat) (arr : Array Value), i ≤ tail ∧ v = .int .i64 (i : Int) ∧ Blk wr gi arr 82 ∧ arr.size = N * 8 ∧ (∀ j q, L[j]? = some q → Ia arr (j * 8) (if P ≤ j ∧ j < P + i then f q else q)) ∧ Frm (fun k => k = gi) W wr
theorem Ia.keep {arr arr' : Array Value} {o : Nat} {q : Tk × Mk} (h : Ia arr o q) (e : ∀ k, o ≤ k → k < o + 8 → arr'[k]? = arr[k]?) : Ia arr' o q :=
  ⟨(e _ (by omega) (by omega)).trans h.c0, (e _ (by omega) (by omega)).trans h.c1, (e _ (by omega) (by omega)).trans h.c2, (e _ (by omega) (by omega)).trans h.c3, (e _ (by omega) (by omega)).trans h.c4, (e _ (by omega) (by omega)).trans h.c5, (e _ (by omega) (by omega)).trans h.c6, (e _ (by omega) (by omega)).trans h.c7⟩
def DocP (w : World) (s : ByteArray) (I : List (Tk × Mk)) (E : Mk) (D : List Dl) (ni nd : Nat) (T : ByteArray) (m1 : Mk) (F : List Dl) (ng nf : Nat) (its : List (Tk × Mk)) (hd tail : Nat) (e : Ending) (w' : World) : Prop :=
  ∃ (E' : Mk) (oa : Option Addr) (oc gi : Nat), e = .returned (.agg (cellsDoc T (.slice (some ⟨gi, 0, none⟩) (hd + nf + tail) (hd + nf + tail)) E' (.slice oa (ng + (nd - (mkAt I E (ni - tail)).en)) oc))) ∧ E' = (if 0 < tail then E.mv F.length (mkAt I E (ni - tail)).en else m1) ∧
    w'.ownsRow w.heap.size 82 8 (.slice (some ⟨gi, 0, none⟩) (hd + nf + tail) (hd + nf + tail)) (hd + nf + tail) (cellsI (I.take hd ++ its ++ (I.drop (ni - tail)).map fun q => (q.1.mv s.size T.size, q.2.mv F.length (mkAt I E (ni - tail)).en))) ∧
    w'.ownsRow w.heap.size 87 2 (.slice oa (ng + (nd - (mkAt I E (ni - tail)).en)) oc) (ng + (nd - (mkAt I E (ni - tail)).en)) (cellsD (F ++ D.drop (mkAt I E (ni - tail)).en)) ∧ Below w.heap.size w w'
theorem dc_last {A B C : List (Tk × Mk)} {f : Tk × Mk → Tk × Mk} {P N tail : Nat} {arr : Array Value} (hP : (A ++ B).length = P) (hC : C.length = tail) (hs : arr.size = N * 8) (hN : P + tail = N) (h : ∀ j q, (A ++ (B ++ C))[j]? = some q → Ia arr (j * 8) (if P ≤ j ∧ j < P + tail then f q else q)) : arr.toList = cellsI (A ++ B ++ C.map f) := by
  refine Ia.to_list ?_ (fun j q hj => ?_)
  · rw [List.length_append, hP, List.length_map, hC, hN]; exact hs
  · rw [← List.append_assoc] at h
    rw [List.getElem?_append] at hj
    by_cases hl : j < (A ++ B).length
    · rw [if_pos hl] at hj
      have h9 := h j q (by rw [List.getElem?_append_left hl]; exact hj)
      rwa [if_neg (by omega)] at h9
    · rw [if_neg hl, List.getElem?_map] at hj
      cases hu : C[j - (A ++ B).length]? with
      | none => rw [hu] at hj; cases hj
      | some u =>
        rw [hu] at hj
        simp only [Option.map_some, Option.some.injEq] at hj
        have hl2 := (List.getElem?_eq_some_iff.1 hu).1
        have h9 := h j u (by rw [List.getElem?_append_right (by omega)]; exact hu)
        rw [if_pos (by omega), hj] at h9
        exact h9
section
variable (w : World) (b : Nat) (s : ByteArray) (I : List (Tk × Mk)) (E : Mk) (D : List Dl) (oi : Option Addr) (ni ci : Nat) (od : Option Addr) (nd cd : Nat) (hV : DocV w b s I E D oi ni ci od nd cd) (hic : ni ≤ ci) (hin : (oi = none ∧ ci = 0) ∨ ∃ g off, oi = some ⟨g, off, none⟩)
  (rb : Nat) (T : ByteArray) (a1 : Nat) (m1 : Mk) (F : List Dl) (og : Option Addr) (ng cg : Nat) (df : Int) (kr : Blk w rb (rdCells b T a1 m1 (.slice og ng cg) df) 97) (hF : Src w (.slice og ng cg) ng (cellsD F)) (hln : ng = F.length)
  (fo : Option Addr) (nf fc : Nat) (its : List (Tk × Mk)) (hfr : Src w (.slice fo nf fc) nf (cellsI its)) (hnf : nf = its.length) (hd tail : Nat) (hht : hd + tail ≤ ni) (hT9 : T.size ≤ 900) (hits9 : its.length ≤ 900) (hF9 : F.length ≤ 900)
  (hmv : ∀ q ∈ I.drop (ni - tail), s.size ≤ q.1.frm + T.size ∧ (mkAt I E (ni - tail)).en ≤ q.2.frm + F.length) (hme : 0 < tail → (mkAt I E (ni - tail)).en ≤ E.frm + F.length)
include hV hic hin kr hF hln hfr hnf hht hT9 hits9 hF9 hmv hme
set_option maxRecDepth 100000 in
set_option maxHeartbeats 8000000 in
theorem doc_any : Calls Tryz.prog 35 #[.pointer (some ⟨rb, 0, none⟩), .int .i64 (hd : Int), .slice fo nf fc, .int .i64 (tail : Int)] w fun e w' => DocP w s I E D ni nd T m1 F ng nf its hd tail e w' := by
  have hni : ni ≤ 900 := by
    have h1 := doc_len w b s I E D oi ni ci od nd cd hV
    have h2 := hV.its.len
    have h3 := hV.sz
    omega
  have HM := Lib.hid (fun W (hW : Below w.heap.size w W) => dmark_any W b s I E D oi ni ci od nd cd (hV.below hW) (ni - tail) (by have := hV.its.len; omega))
  have hnd9 : nd ≤ 900 := by
    have h1 := hV.path.en_le
    have h2 := hV.en
    have h3 := hV.its.len
    have h4 := hV.ln
    have h5 : Mk.zero.en = 0 := rfl
    omega
  have hng9 : ng ≤ 900 := by omega
  have hmk := doc_mk w b s I E D oi ni ci od nd cd hV (ni - tail)
  have HMV := Lib.hid (And.intro hmv hme)
  obtain ⟨r, hr⟩ : ∃ r, mkAt I E (ni - tail) = r := ⟨_, rfl⟩
  rw [hr] at HM hmk HMV
  have HR := Lib.hid hr
  obtain ⟨rA, rB, rf, re⟩ := r
  dsimp only at hmk
  have r1 : IntKind.i64.wrap ((ni : Int) - (tail : Int)) = ((ni - tail : Nat) : Int) := by rw [IntWalk.i64_in _ (by omega)]; omega
  have hfd : ∀ W : World, (Instr.field 66 (.agg #[.int .i64 (rA : Int), .bool rB, .int .i64 (rf : Int), .int .i64 (re : Int)]) 3).run Tryz.prog W = .ok (.int .i64 (re : Int)) W := fun _ => by kernel_rfl
  obtain ⟨z, hz⟩ : ∃ z, w.heap.size = z := ⟨_, rfl⟩
  obtain ⟨W0, hW0⟩ : ∃ X, w.alloc (.cells #[.string ⟨#[]⟩, .slice none 0 0, .int .i64 0, .bool false, .int .i64 0, .int .i64 0, .slice none 0 0] 68) = X := ⟨_, rfl⟩
  have hB0 : Below w.heap.size w W0 := by rw [← hW0]; exact (Below.refl _ _).alloc (Nat.le_refl _) _
  have kz : Blk W0 z #[.string ⟨#[]⟩, .slice none 0 0, .int .i64 0, .bool false, .int .i64 0, .int .i64 0, .slice none 0 0] 68 := by rw [← hW0, ← hz]; exact Blk.new _ _ _
  have hV0 := hV.below hB0
  have kr0 := kr.below hB0
  have hF0 := hF.below hB0
  have hfr0 := hfr.below hB0
  have hM0 := HM.out W0 hB0
  unfold rdCells at kr0
  have r0 := kr0.cell 0
  have d1 := hV0.blk.cell 1
  have HV := Lib.hid (And.intro hV (And.intro kr (And.intro hF (And.intro hln (And.intro hfr hnf)))))
  have HV0 := Lib.hid (And.intro hV0 (And.intro kr0 (And.intro hF0 hfr0)))
  have HM0 := Lib.hid hM0
  have HB0 := Lib.hid hB0
  have HKZ := Lib.hid kz
  unfold aggM at HM0
  dsimp only at HM0
  clear hV kr hF hln hfr hnf hV0 kr0 hF0 hfr0 hM0 hB0 kz HM hmv hme hr
  go_enter Tryz.func35, Tryz.ntmps35
  go_upto_region 1 with fail
  have HW0 := Lib.hid hW0
  have HZ := Lib.hid hz
  clear hW0 hz
  go_wp2_with fail
  refine HM0.out.mono ?_
  rintro e1 w1 ⟨rfl, hb1⟩
  have hV1 := HV0.out.1.below hb1
  have kr1 := HV0.out.2.1.below hb1
  have hs1 := hb1.size
  have HV1 := Lib.hid (And.intro hV1 (And.intro kr1 (And.intro (HV0.out.2.2.1.below hb1) (And.intro (HV0.out.2.2.2.below hb1) (HKZ.out.below hb1)))))
  have HB1 := Lib.hid (HB0.out.trans (hb1.mono HB0.out.size))
  clear hV1 kr1 hb1 HV0 HB0 HKZ HM0 r0 d1
  go_upto_region 3 with fail
  obtain ⟨mA, mB, mf, me⟩ := m1
  have hkp : ∀ W, Below w1.heap.size w1 W → W.cell? ⟨rb, 0, none⟩ = some (.pointer (some ⟨b, 0, none⟩)) ∧ W.cell? ⟨rb, 1, none⟩ = some (.string T) ∧ W.cell? ⟨rb, 3, none⟩ = some (.int .i64 (mA : Int)) ∧ W.cell? ⟨rb, 4, none⟩ = some (.bool mB) ∧ W.cell? ⟨rb, 5, none⟩ = some (.int .i64 (mf : Int)) ∧ W.cell? ⟨rb, 6, none⟩ = some (.int .i64 (me : Int)) ∧ W.cell? ⟨rb, 7, none⟩ = some (.slice og ng cg) ∧ W.cell? ⟨b, 6, none⟩ = some (.slice od nd cd) := fun W hW => by
    have k1 := HV1.out.2.1.below hW
    have k2 := HV1.out.1.blk.below hW
    exact ⟨k1.cell 0, k1.cell 1, k1.cell 3, k1.cell 4, k1.cell 5, k1.cell 6, k1.cell 7, k2.cell 6⟩
  have HKP := Lib.hid hkp
  have hdl := HV1.out.1.del
  have q1 : (0 : Int) ≤ (re : Int) := by omega
  have q2 : (re : Int) ≤ (nd : Int) := by have := HV1.out.1.ln; omega
  have q3 : (nd : Int) - (re : Int) = ((nd - re : Nat) : Int) := by omega
  have q4 : re ≤ nd := by omega
  have q5 : nd ≤ cd := HV1.out.1.cap
  clear hkp hfd
  go_cut [11] from 33 to 56 (fun v wx => D3 w1 wx T ⟨mA, mB, mf, me⟩ (F ++ D.drop re) (ng + (nd - re)) v)
  case first =>
    have HC0 := fun (o2 : Option Addr) (c2 : Nat) (hS2 : Src w1 (.slice o2 (nd - re) c2) (nd - re) ((cellsD D).drop (re * 2))) (W : World) (g3 : Nat) (hW : Below w1.heap.size w1 W) (hg3 : Blk W g3 #[.slice og ng cg, .slice o2 (nd - re) c2] 48) => show Calls Tryz.prog 49 #[.slice (some ⟨g3, 0, none⟩) 2 2] W fun e w' => ∃ v, e = .returned v ∧ ∃ oa oc, v = .slice oa (ng + (nd - re)) oc ∧ w'.ownsRow W.heap.size 87 2 (.slice oa (ng + (nd - re)) oc) (ng + (nd - re)) (cellsD (F ++ D.drop re)) ∧ Below W.heap.size W w' from
      (concat_any W g3 ng (nd - re) cg c2 og o2 F (D.drop re) (hg3.cell 0) (hg3.cell 1) hg3.lt (HV1.out.2.2.1.below hW) (by have := hS2.below hW; rwa [← cellsD_dr] at this) HV.out.2.2.2.1 (by rw [List.length_drop, ← HV1.out.1.ln]) (by omega)).mono (fun e w' ⟨⟨oa, oc, h1, h2⟩, h3⟩ => ⟨_, h1, oa, oc, rfl, h2, h3⟩)
    rcases hdl with ⟨h1, h2, h3⟩ | ⟨g, off, c2, h1, h2, h3⟩
    · cases h1
      obtain rfl : re = 0 := by omega
      have HC1 := HC0 none 0 (.inl ⟨rfl, rfl, by rw [h3]; rfl⟩)
      have HC := Lib.hid HC1
      clear HC0 HC1 h3
      go_region_held_law (fun W => W.cell? ⟨rb, 0, none⟩ = some (.pointer (some ⟨b, 0, none⟩)) ∧ W.cell? ⟨rb, 1, none⟩ = some (.string T) ∧ W.cell? ⟨rb, 3, none⟩ = some (.int .i64 (mA : Int)) ∧ W.cell? ⟨rb, 4, none⟩ = some (.bool mB) ∧ W.cell? ⟨rb, 5, none⟩ = some (.int .i64 (mf : Int)) ∧ W.cell? ⟨rb, 6, none⟩ = some (.int .i64 (me : Int)) ∧ W.cell? ⟨rb, 7, none⟩ = some (.slice og ng cg) ∧ W.cell? ⟨b, 6, none⟩ = some (.slice none 0 0)) ((exact HKP.out _ (by (repeat (with_reducible (first | exact (Below.refl _ _).drew | exact Below.refl _ _ | exact hb04 | refine Below.drew ?_ | refine balloc ?_ _ | refine bset ?_ (by omega) _ _)))))) (first
        | (refine step_call (by rfl) Tryz.func49 (by kernel_rfl) (by kernel_rfl) _ _ (by rfl) [.slice (some ⟨w1.heap.size, 0, none⟩) 2 2] (by rfl) _ (HC.out ((w1.alloc (.cells #[.slice og ng cg, .slice none 0 0] 48)).drew) (w1.heap.size) (balloc (Below.refl w1.heap.size w1) (.cells #[.slice og ng cg, .slice none 0 0] 48)).drew (Blk.new _ _ _).drew) ?_; intro v w4 hh; obtain ⟨oa, oc, hv4, hO4, hb4⟩ := hh; subst hv4; have hb04 : Below w1.heap.size w1 w4 := ((balloc (Below.refl w1.heap.size w1) (.cells #[.slice og ng cg, .slice none 0 0] 48)).drew).trans (hb4.mono ((balloc (Below.refl w1.heap.size w1) (.cells #[.slice og ng cg, .slice none 0 0] 48)).drew).size))
        | (refine step_call (by rfl) Tryz.func49 (by kernel_rfl) (by kernel_rfl) _ _ (by rfl) [.slice (some ⟨w1.heap.size + 1, 0, none⟩) 2 2] (by rfl) _ (HC.out (((w1.alloc (.cells #[.string ⟨#[]⟩, .slice none 0 0, .int .i64 0, .bool false, .int .i64 0, .int .i64 0, .slice none 0 0] 68)).alloc (.cells #[.slice og ng cg, .slice none 0 0] 48)).drew) (w1.heap.size + 1) (balloc (balloc (Below.refl w1.heap.size w1) (.cells #[.string ⟨#[]⟩, .slice none 0 0, .int .i64 0, .bool false, .int .i64 0, .int .i64 0, .slice none 0 0] 68)) (.cells #[.slice og ng cg, .slice none 0 0] 48)).drew (by have h9 := (Blk.new (w1.alloc (.cells #[.string ⟨#[]⟩, .slice none 0 0, .int .i64 0, .bool false, .int .i64 0, .int .i64 0, .slice none 0 0] 68)) #[.slice og ng cg, .slice none 0 0] 48).drew; rw [World.size_alloc] at h9; exact h9)) ?_; intro v w4 hh; obtain ⟨oa, oc, hv4, hO4, hb4⟩ := hh; subst hv4; have hb04 : Below w1.heap.size w1 w4 := ((balloc (balloc (Below.refl w1.heap.size w1) (.cells #[.string ⟨#[]⟩, .slice none 0 0, .int .i64 0, .bool false, .int .i64 0, .int .i64 0, .slice none 0 0] 68)) (.cells #[.slice og ng cg, .slice none 0 0] 48)).drew).trans (hb4.mono ((balloc (balloc (Below.refl w1.heap.size w1) (.cells #[.string ⟨#[]⟩, .slice none 0 0, .int .i64 0, .bool false, .int .i64 0, .int .i64 0, .slice none 0 0] 68)) (.cells #[.slice og ng cg, .slice none 0 0] 48)).drew).size); have kx : Blk w4 (w1.heap.size) #[.string ⟨#[]⟩, .slice none 0 0, .int .i64 0, .bool false, .int .i64 0, .int .i64 0, .slice none 0 0] 68 := (((Blk.new w1 #[.string ⟨#[]⟩, .slice none 0 0, .int .i64 0, .bool false, .int .i64 0, .int .i64 0, .slice none 0 0] 68).alloc (.cells #[.slice og ng cg, .slice none 0 0] 48)).drew).below hb4; have kc0 := kx.cell 0; have kc1 := kx.cell 1; have kc2 := kx.cell 2; have kc3 := kx.cell 3; have kc4 := kx.cell 4; have kc5 := kx.cell 5; have kc6 := kx.cell 6; have kf0 := kx.frozen 0; have kf1 := kx.frozen 1; have kf2 := kx.frozen 2; have kf3 := kx.frozen 3; have kf4 := kx.frozen 4; have kf5 := kx.frozen 5; have kf6 := kx.frozen 6)
        | (refine step_call (by rfl) Tryz.func49 (by kernel_rfl) (by kernel_rfl) _ _ (by rfl) [.slice (some ⟨w1.heap.size, 0, none⟩) 2 2] (by rfl) _ (HC.out (((w1.alloc (.cells #[.slice og ng cg, .slice none 0 0] 48)).alloc (.cells #[.string ⟨#[]⟩, .slice none 0 0, .int .i64 0, .bool false, .int .i64 0, .int .i64 0, .slice none 0 0] 68)).drew) (w1.heap.size) (balloc (balloc (Below.refl w1.heap.size w1) (.cells #[.slice og ng cg, .slice none 0 0] 48)) (.cells #[.string ⟨#[]⟩, .slice none 0 0, .int .i64 0, .bool false, .int .i64 0, .int .i64 0, .slice none 0 0] 68)).drew ((Blk.new _ _ _).alloc _).drew) ?_; intro v w4 hh; obtain ⟨oa, oc, hv4, hO4, hb4⟩ := hh; subst hv4; have hb04 : Below w1.heap.size w1 w4 := ((balloc (balloc (Below.refl w1.heap.size w1) (.cells #[.slice og ng cg, .slice none 0 0] 48)) (.cells #[.string ⟨#[]⟩, .slice none 0 0, .int .i64 0, .bool false, .int .i64 0, .int .i64 0, .slice none 0 0] 68)).drew).trans (hb4.mono ((balloc (balloc (Below.refl w1.heap.size w1) (.cells #[.slice og ng cg, .slice none 0 0] 48)) (.cells #[.string ⟨#[]⟩, .slice none 0 0, .int .i64 0, .bool false, .int .i64 0, .int .i64 0, .slice none 0 0] 68)).drew).size); have kx : Blk w4 (w1.heap.size + 1) #[.string ⟨#[]⟩, .slice none 0 0, .int .i64 0, .bool false, .int .i64 0, .int .i64 0, .slice none 0 0] 68 := (by have h9 := ((Blk.new (w1.alloc (.cells #[.slice og ng cg, .slice none 0 0] 48)) #[.string ⟨#[]⟩, .slice none 0 0, .int .i64 0, .bool false, .int .i64 0, .int .i64 0, .slice none 0 0] 68).drew).below hb4; rw [World.size_alloc] at h9; exact h9); have kc0 := kx.cell 0; have kc1 := kx.cell 1; have kc2 := kx.cell 2; have kc3 := kx.cell 3; have kc4 := kx.cell 4; have kc5 := kx.cell 5; have kc6 := kx.cell 6; have kf0 := kx.frozen 0; have kf1 := kx.frozen 1; have kf2 := kx.frozen 2; have kf3 := kx.frozen 3; have kf4 := kx.frozen 4; have kf5 := kx.frozen 5; have kf6 := kx.frozen 6))
      all_goals
        go_step
        go_step
        go_meet
        case rel =>
          rw [show ng + (0 - 0) = ng from rfl] at hO4 ⊢
          first
            | with_reducible exact d3_new hb04 hO4 (by first | exact Nat.le_refl _ | (rw [World.size_drew, World.size_alloc]; omega))
            | with_reducible exact d3_seven hb04 hO4 kx (by omega) (by (repeat rw [World.size_drew]); (repeat rw [World.size_alloc]); omega)
            | (trace_state; fail "rel")
    · cases h1
      have hS2 := Src.drop_at (k := 2) (re := re) HV1.out.1.del (by rw [cellsD_length, ← HV1.out.1.ln]) q4 (if cd = re then some ⟨g, off, none⟩ else some ⟨g, off + re * 2, none⟩) (cd - re) (fun hl b' off' he => by cases he; rw [if_neg (by omega)]) (fun _ h => by split at h <;> cases h) (fun a h => by split at h <;> (cases h; exact ⟨rfl, h2⟩))
      have HC1 := HC0 _ _ hS2
      obtain ⟨o2, ho2⟩ : ∃ o, (if cd = re then (some ⟨g, off, none⟩ : Option Addr) else some ⟨g, off + re * 2, none⟩) = o := ⟨_, rfl⟩
      rw [ho2] at HC1
      have HC := Lib.hid HC1
      clear HC0 HC1 hS2 h3
      go_region_held_law (fun W => W.cell? ⟨rb, 0, none⟩ = some (.pointer (some ⟨b, 0, none⟩)) ∧ W.cell? ⟨rb, 1, none⟩ = some (.string T) ∧ W.cell? ⟨rb, 3, none⟩ = some (.int .i64 (mA : Int)) ∧ W.cell? ⟨rb, 4, none⟩ = some (.bool mB) ∧ W.cell? ⟨rb, 5, none⟩ = some (.int .i64 (mf : Int)) ∧ W.cell? ⟨rb, 6, none⟩ = some (.int .i64 (me : Int)) ∧ W.cell? ⟨rb, 7, none⟩ = some (.slice og ng cg) ∧ W.cell? ⟨b, 6, none⟩ = some (.slice (some ⟨g, off, none⟩) nd cd)) ((exact HKP.out _ (by (repeat (with_reducible (first | exact (Below.refl _ _).drew | exact Below.refl _ _ | exact hb04 | refine Below.drew ?_ | refine balloc ?_ _ | refine bset ?_ (by omega) _ _)))))) (first
        | (refine step_call (by rfl) Tryz.func49 (by kernel_rfl) (by kernel_rfl) _ _ (by rfl) [.slice (some ⟨w1.heap.size, 0, none⟩) 2 2] (by rfl) _ (HC.out ((w1.alloc (.cells #[.slice og ng cg, .slice o2 (nd - re) (cd - re)] 48)).drew) (w1.heap.size) (balloc (Below.refl w1.heap.size w1) (.cells #[.slice og ng cg, .slice o2 (nd - re) (cd - re)] 48)).drew (Blk.new _ _ _).drew) ?_; intro v w4 hh; obtain ⟨oa, oc, hv4, hO4, hb4⟩ := hh; subst hv4; have hb04 : Below w1.heap.size w1 w4 := ((balloc (Below.refl w1.heap.size w1) (.cells #[.slice og ng cg, .slice o2 (nd - re) (cd - re)] 48)).drew).trans (hb4.mono ((balloc (Below.refl w1.heap.size w1) (.cells #[.slice og ng cg, .slice o2 (nd - re) (cd - re)] 48)).drew).size))
        | (refine step_call (by rfl) Tryz.func49 (by kernel_rfl) (by kernel_rfl) _ _ (by rfl) [.slice (some ⟨w1.heap.size + 1, 0, none⟩) 2 2] (by rfl) _ (HC.out (((w1.alloc (.cells #[.string ⟨#[]⟩, .slice none 0 0, .int .i64 0, .bool false, .int .i64 0, .int .i64 0, .slice none 0 0] 68)).alloc (.cells #[.slice og ng cg, .slice o2 (nd - re) (cd - re)] 48)).drew) (w1.heap.size + 1) (balloc (balloc (Below.refl w1.heap.size w1) (.cells #[.string ⟨#[]⟩, .slice none 0 0, .int .i64 0, .bool false, .int .i64 0, .int .i64 0, .slice none 0 0] 68)) (.cells #[.slice og ng cg, .slice o2 (nd - re) (cd - re)] 48)).drew (by have h9 := (Blk.new (w1.alloc (.cells #[.string ⟨#[]⟩, .slice none 0 0, .int .i64 0, .bool false, .int .i64 0, .int .i64 0, .slice none 0 0] 68)) #[.slice og ng cg, .slice o2 (nd - re) (cd - re)] 48).drew; rw [World.size_alloc] at h9; exact h9)) ?_; intro v w4 hh; obtain ⟨oa, oc, hv4, hO4, hb4⟩ := hh; subst hv4; have hb04 : Below w1.heap.size w1 w4 := ((balloc (balloc (Below.refl w1.heap.size w1) (.cells #[.string ⟨#[]⟩, .slice none 0 0, .int .i64 0, .bool false, .int .i64 0, .int .i64 0, .slice none 0 0] 68)) (.cells #[.slice og ng cg, .slice o2 (nd - re) (cd - re)] 48)).drew).trans (hb4.mono ((balloc (balloc (Below.refl w1.heap.size w1) (.cells #[.string ⟨#[]⟩, .slice none 0 0, .int .i64 0, .bool false, .int .i64 0, .int .i64 0, .slice none 0 0] 68)) (.cells #[.slice og ng cg, .slice o2 (nd - re) (cd - re)] 48)).drew).size); have kx : Blk w4 (w1.heap.size) #[.string ⟨#[]⟩, .slice none 0 0, .int .i64 0, .bool false, .int .i64 0, .int .i64 0, .slice none 0 0] 68 := (((Blk.new w1 #[.string ⟨#[]⟩, .slice none 0 0, .int .i64 0, .bool false, .int .i64 0, .int .i64 0, .slice none 0 0] 68).alloc (.cells #[.slice og ng cg, .slice o2 (nd - re) (cd - re)] 48)).drew).below hb4; have kc0 := kx.cell 0; have kc1 := kx.cell 1; have kc2 := kx.cell 2; have kc3 := kx.cell 3; have kc4 := kx.cell 4; have kc5 := kx.cell 5; have kc6 := kx.cell 6; have kf0 := kx.frozen 0; have kf1 := kx.frozen 1; have kf2 := kx.frozen 2; have kf3 := kx.frozen 3; have kf4 := kx.frozen 4; have kf5 := kx.frozen 5; have kf6 := kx.frozen 6)
        | (refine step_call (by rfl) Tryz.func49 (by kernel_rfl) (by kernel_rfl) _ _ (by rfl) [.slice (some ⟨w1.heap.size, 0, none⟩) 2 2] (by rfl) _ (HC.out (((w1.alloc (.cells #[.slice og ng cg, .slice o2 (nd - re) (cd - re)] 48)).alloc (.cells #[.string ⟨#[]⟩, .slice none 0 0, .int .i64 0, .bool false, .int .i64 0, .int .i64 0, .slice none 0 0] 68)).drew) (w1.heap.size) (balloc (balloc (Below.refl w1.heap.size w1) (.cells #[.slice og ng cg, .slice o2 (nd - re) (cd - re)] 48)) (.cells #[.string ⟨#[]⟩, .slice none 0 0, .int .i64 0, .bool false, .int .i64 0, .int .i64 0, .slice none 0 0] 68)).drew ((Blk.new _ _ _).alloc _).drew) ?_; intro v w4 hh; obtain ⟨oa, oc, hv4, hO4, hb4⟩ := hh; subst hv4; have hb04 : Below w1.heap.size w1 w4 := ((balloc (balloc (Below.refl w1.heap.size w1) (.cells #[.slice og ng cg, .slice o2 (nd - re) (cd - re)] 48)) (.cells #[.string ⟨#[]⟩, .slice none 0 0, .int .i64 0, .bool false, .int .i64 0, .int .i64 0, .slice none 0 0] 68)).drew).trans (hb4.mono ((balloc (balloc (Below.refl w1.heap.size w1) (.cells #[.slice og ng cg, .slice o2 (nd - re) (cd - re)] 48)) (.cells #[.string ⟨#[]⟩, .slice none 0 0, .int .i64 0, .bool false, .int .i64 0, .int .i64 0, .slice none 0 0] 68)).drew).size); have kx : Blk w4 (w1.heap.size + 1) #[.string ⟨#[]⟩, .slice none 0 0, .int .i64 0, .bool false, .int .i64 0, .int .i64 0, .slice none 0 0] 68 := (by have h9 := ((Blk.new (w1.alloc (.cells #[.slice og ng cg, .slice o2 (nd - re) (cd - re)] 48)) #[.string ⟨#[]⟩, .slice none 0 0, .int .i64 0, .bool false, .int .i64 0, .int .i64 0, .slice none 0 0] 68).drew).below hb4; rw [World.size_alloc] at h9; exact h9); have kc0 := kx.cell 0; have kc1 := kx.cell 1; have kc2 := kx.cell 2; have kc3 := kx.cell 3; have kc4 := kx.cell 4; have kc5 := kx.cell 5; have kc6 := kx.cell 6; have kf0 := kx.frozen 0; have kf1 := kx.frozen 1; have kf2 := kx.frozen 2; have kf3 := kx.frozen 3; have kf4 := kx.frozen 4; have kf5 := kx.frozen 5; have kf6 := kx.frozen 6))
      all_goals
        go_step
        go_step
        go_meet
        case rel =>
          first
            | with_reducible exact d3_new hb04 hO4 (by first | exact Nat.le_refl _ | (rw [World.size_drew, World.size_alloc]; omega))
            | with_reducible exact d3_seven hb04 hO4 kx (by omega) (by (repeat rw [World.size_drew]); (repeat rw [World.size_alloc]); omega)
            | (trace_state; fail "rel")
  case rest =>
    clear hdl
    obtain ⟨bd, oa, oc, rfl, kd, hO, hb3, hge, hne⟩ := hcut
    generalize wc = w3 at *
    unfold cellsDoc at kd
    dsimp only at kd
    obtain ⟨N, hN⟩ : ∃ N, hd + nf + tail = N := ⟨_, rfl⟩
    have hnf9 : nf ≤ 900 := by have := HV.out.2.2.2.2.2; omega
    obtain ⟨P, hP⟩ : ∃ P, hd + nf = P := ⟨_, rfl⟩
    have r2 : IntKind.i64.wrap ((hd : Int) + (nf : Int)) = (P : Int) := by rw [IntWalk.i64_in _ (by omega)]; omega
    have r3 : IntKind.i64.wrap ((P : Int) + (tail : Int)) = (N : Int) := by rw [IntWalk.i64_in _ (by omega)]; omega
    have HP := Lib.hid hP
    obtain ⟨i0, hi0, hz0, hs0, hb0⟩ := info_parts infoItD
    have hmk0 := fun W => run_make (P := Tryz.prog) W 64 82 i0 _ Tryz.underlying64 hi0 hz0 .i64 .i64 (N : Int) (N : Int) (by omega) (Int.le_refl _) (by rw [hb0]; omega) (by omega)
    simp only [Int.toNat_natCast, hs0] at hmk0
    obtain ⟨M0, hM0⟩ : ∃ M, madeCells (Value.agg #[.int .i64 0, .int .i64 0, .int .i64 0, .bool false, .int .i64 0, .bool false, .int .i64 0, .int .i64 0]).cells (N * 8) = M := ⟨_, rfl⟩
    have hM1 : M0.size = N * 8 := by rw [← hM0, size_madeCells]
    rw [hM0] at hmk0
    have hmk : ∀ W, (Instr.makeSlice 64 (.int .i64 (N : Int)) (.int .i64 (N : Int))).run Tryz.prog W = .ok (.slice (some ⟨W.heap.size, 0, none⟩) N N) (W.alloc (.cells M0 82)) := hmk0
    obtain ⟨gi, hgi⟩ : ∃ g, w3.heap.size = g := ⟨_, rfl⟩
    have hbdl : bd < gi := by rw [← hgi]; exact kd.lt
    have kd3 := kd.alloc (.cells M0 82)
    have c1 := kd3.cell 1
    have e1 := kd3.frozen 1
    have kd4 := kd3.set 1 (.slice (some ⟨gi, 0, none⟩) N N)
    have kg4 := (Blk.new w3 M0 82).other (b' := bd) 1 (.slice (some ⟨gi, 0, none⟩) N N) (by omega)
    rw [hgi] at kg4
    have hF4 : Frm (fun j => j = bd) w3 ((w3.alloc (.cells M0 82)).setCell ⟨bd, 1, none⟩ (.slice (some ⟨gi, 0, none⟩) N N)) := Frm.put ((Frm.refl _ w3).alloc _) 1 _
    obtain ⟨w4, hw4⟩ : ∃ X, (w3.alloc (.cells M0 82)).setCell ⟨bd, 1, none⟩ (.slice (some ⟨gi, 0, none⟩) N N) = X := ⟨_, rfl⟩
    rw [hw4] at kd4 kg4 hF4
    have kd4' : Blk w4 bd #[.string T, .slice (some ⟨gi, 0, none⟩) N N, .int .i64 (mA : Int), .bool mB, .int .i64 (mf : Int), .int .i64 (me : Int), .slice oa (ng + (nd - re)) oc] 68 := by simpa using kd4
    have hO4 := own_frm hF4 hO hne
    have hol : ∀ g, (Value.slice oa (ng + (nd - re)) oc).ownBlock = some g → g < gi := fun g hg => by have := own_lt hO g hg; omega
    have hb4 : Below w1.heap.size w1 w4 := hb3.trans (hF4.below hb3.size (fun j hj => by rw [hj]; exact hge))
    have hs4 := hF4.size
    have HK4 := Lib.hid (And.intro kd4' (And.intro kg4 (And.intro hO4 (And.intro hb4 (And.intro hge (And.intro hne hol))))))
    have HM1 := Lib.hid hM1
    have HN := Lib.hid hN
    have HI0 := Lib.hid (And.intro hi0 (And.intro hz0 (And.intro hs0 hb0)))
    clear hmk0 hM0 hM1 hi0 hz0 hs0 hb0 kd4 kd4' kg4 hO4 hb4 hge hne hol hF4 kd kd3 hO hb3 hN hP HKP
    go_upto_region 5 with fail
    have hV4 := HV1.out.1.below HK4.out.2.2.2.1
    have kr4 := HV1.out.2.1.below HK4.out.2.2.2.1
    have x0 := kr4.cell 0
    have x1 := hV4.blk.cell 1
    have x2 := HK4.out.1.cell 1
    have HRD := Lib.hid hV4.its
    have t1 : (0 : Int) ≤ (hd : Int) := by omega
    have t2 : (hd : Int) ≤ (ci : Int) := by omega
    clear hV4 kr4
    go_cut [12] from 65 to 76 (fun v wx => v = .int .i64 (hd : Int) ∧ Hid (wx.heap[gi]? = some (.cells (splice M0.toList 0 (cellsI (I.take hd))).toArray 82 (0, 0))) ∧ Below gi w4 wx)
    case first =>
      rcases hin with ⟨rfl, rfl⟩ | ⟨g, off, rfl⟩
      · have H0 := Lib.hid (show ni = 0 from HRD.out.none)
        refine (wpIn_wide (n := 1)).1 ?_
        (refine quiet_then 11 (by decide) (by kernel_rfl) (by kernel_rfl) (by kernel_rfl) (by kernel_rfl) ?_
         dsimp only [List.take_succ_cons, List.take_zero]
         repeat (first
           | gi_big_quiet_step (fail)
           | (refine wpQuietIn_step (fun _ _ _ _ => trivial) (fun K hK => ?_)
              go_simp
              refine hK _ ?_
              clear hK K))
         refine wpQuietIn_nil ?_
         intro _ hw'
         obtain ⟨nq, hw''⟩ := hw'
         subst hw'')
        obtain ⟨w5, hw5⟩ : ∃ X, w4.drewN nq = X := ⟨_, rfl⟩
        have hb5 : Below w4.heap.size w4 w5 := by rw [← hw5]; exact below_drewN (Below.refl _ _) nq
        rw [hw5]
        clear hw5
        have kg5 := HK4.out.2.1.below hb5
        refine wpAnyIn_ready (rs := [11]) (by kernel_rfl) (by simp) ?_
        refine AllReadyIn.cons rfl (fun K hK => ?_) AllReadyIn.nil
        refine stepIn_copy_k (by rfl) _ _ 64 64 (by rfl) 82 Tryz.underlying64 8 szIt _ _ N N hd _ (by rfl) (by rfl) gi 0 M0.toList 82 (by rw [Array.toArray_toList]; exact kg5) hd (Nat.min_eq_left (by have := HN.out; omega)) (cellsI (I.take hd)) (by rw [cellsI_length, List.length_take]; have := HRD.out.len; have := H0.out; omega) (fun h => by have := H0.out; omega) (by rw [cellsI_length, List.length_take]; have := HRD.out.len; have := H0.out; omega) (cellsI_one _) gi w5 (Below.refl _ _) (Nat.le_refl _) ?_
        intro w6 h6 hb6
        refine hK _ _ ?_
        clear hK K
        refine wpAnyIn_ready (rs := [12]) (by kernel_rfl) (by simp) ?_
        refine AllReadyIn.cons rfl (fun K hK => ?_) AllReadyIn.nil
        go_simp
        refine hK _ _ ?_
        clear hK K
        refine wpAnyIn_done (by kernel_rfl) ?_ _
        go_step
        go_step
        go_meet
        case rel => exact ⟨rfl, h6, (hb5.mono (by omega)).trans hb6⟩
      · refine (wpIn_wide (n := 1)).1 ?_
        (refine quiet_then 11 (by decide) (by kernel_rfl) (by kernel_rfl) (by kernel_rfl) (by kernel_rfl) ?_
         dsimp only [List.take_succ_cons, List.take_zero]
         repeat (first
           | gi_big_quiet_step (fail)
           | (refine wpQuietIn_step (fun _ _ _ _ => trivial) (fun K hK => ?_)
              go_simp
              refine hK _ ?_
              clear hK K))
         refine wpQuietIn_nil ?_
         intro _ hw'
         obtain ⟨nq, hw''⟩ := hw'
         subst hw'')
        obtain ⟨w5, hw5⟩ : ∃ X, w4.drewN nq = X := ⟨_, rfl⟩
        have hb5 : Below w4.heap.size w4 w5 := by rw [← hw5]; exact below_drewN (Below.refl _ _) nq
        rw [hw5]
        clear hw5
        have kg5 := HK4.out.2.1.below hb5
        have hrd5 := HRD.out.below hb5
        refine wpAnyIn_ready (rs := [11]) (by kernel_rfl) (by simp) ?_
        refine AllReadyIn.cons rfl (fun K hK => ?_) AllReadyIn.nil
        refine stepIn_copy_k (by rfl) _ _ 64 64 (by rfl) 82 Tryz.underlying64 8 szIt _ _ N N hd _ (by rfl) (by rfl) gi 0 M0.toList 82 (by rw [Array.toArray_toList]; exact kg5) hd (Nat.min_eq_left (by have := HN.out; omega)) (cellsI (I.take hd)) (by rw [cellsI_length, List.length_take, Nat.min_eq_left (by have := hrd5.len; omega)]) (fun h => ⟨rfl, ⟨g, off, none⟩, rfl, fun j v hj => ?_⟩) (by rw [cellsI_length, List.length_take, Nat.min_eq_left (by have := hrd5.len; omega), Array.length_toList]; have := HM1.out; have := HN.out; omega) (cellsI_one _) gi w5 (Below.refl _ _) (Nat.le_refl _) ?_
        · obtain ⟨b', off', e', _, hcs⟩ := hrd5.cs (by omega)
          cases e'
          rw [addr_plus]
          refine hcs j v ?_
          rw [cellsI_take] at hj
          rw [List.getElem?_take] at hj
          split at hj
          · exact hj
          · cases hj
        intro w6 h6 hb6
        refine hK _ _ ?_
        clear hK K
        refine wpAnyIn_ready (rs := [12]) (by kernel_rfl) (by simp) ?_
        refine AllReadyIn.cons rfl (fun K hK => ?_) AllReadyIn.nil
        go_simp
        refine hK _ _ ?_
        clear hK K
        refine wpAnyIn_done (by kernel_rfl) ?_ _
        go_step
        go_step
        go_meet
        case rel => exact ⟨rfl, h6, (hb5.mono (by omega)).trans hb6⟩
    case rest =>
      obtain ⟨rfl, h5, hb5⟩ := hcut
      generalize wc = w5 at *
      have hw1g : w1.heap.size ≤ gi := by have := HK4.out.2.2.2.2.1; omega
      have kd5 := (show Blk w5 bd _ _ from (hb5.block bd hbdl).trans HK4.out.1)
      have hbw5 : Below w1.heap.size w1 w5 := HK4.out.2.2.2.1.trans (hb5.mono hw1g)
      have HFR := Lib.hid (HV1.out.2.2.2.1.below hbw5)
      have HB5 := Lib.hid (And.intro hbw5 hb5)
      have HKD5 := Lib.hid kd5
      have x2 := kd5.cell 1
      have t3 : (hd : Int) ≤ (N : Int) := by have := HN.out; omega
      have t4 : (N : Int) - (hd : Int) = ((N - hd : Nat) : Int) := by omega
      have hL5 : (splice M0.toList 0 (cellsI (I.take hd))).length = N * 8 := by
        have h1 := (HV1.out.1.its).len
        have h2 := HM1.out
        have h3 := HN.out
        simp only [splice, List.length_append, List.length_take, List.length_drop, cellsI_length, Array.length_toList]
        omega
      have HL5 := Lib.hid hL5
      clear kd5 hbw5 hb5 hL5 x0 x1
      go_upto_region 6 with fail
      go_cut [12] from 77 to 84 (fun v wx => v = .int .i64 (P : Int) ∧ Hid (wx.heap[gi]? = some (.cells (splice (splice M0.toList 0 (cellsI (I.take hd))) (hd * 8) (cellsI its)).toArray 82 (0, 0))) ∧ Below gi w5 wx)
      case first =>
        by_cases hNh : N = hd
        · obtain ⟨w6, hrun, h6, hb6⟩ := run_copy_any (P := Tryz.prog) w5 64 64 3 82 Tryz.underlying64 8 szIt (some ⟨gi, 0, none⟩) fo 0 0 nf fc gi (hd * 8) (splice M0.toList 0 (cellsI (I.take hd))) 82 h5.out nf (Nat.min_eq_left (by have := HN.out; omega)) (cellsI its) (by rw [cellsI_length, HV.out.2.2.2.2.2]) (fun h => ⟨by first | rfl | (have := HN.out; omega), src_add HFR.out h⟩) (by rw [cellsI_length, HL5.out, ← HV.out.2.2.2.2.2]; have := HN.out; omega) (cellsI_one _) gi w5 (Below.refl _ _) (Nat.le_refl _)
          subst hNh
          go_wp2_with fail
          go_meet
          case rel => exact ⟨rfl, h6, hb6⟩
        · obtain ⟨w6, hrun, h6, hb6⟩ := run_copy_any (P := Tryz.prog) w5 64 64 3 82 Tryz.underlying64 8 szIt (some ⟨gi, hd * 8, none⟩) fo (N - hd) (N - hd) nf fc gi (hd * 8) (splice M0.toList 0 (cellsI (I.take hd))) 82 h5.out nf (Nat.min_eq_left (by have := HN.out; omega)) (cellsI its) (by rw [cellsI_length, HV.out.2.2.2.2.2]) (fun h => ⟨by first | rfl | (have := HN.out; omega), src_add HFR.out h⟩) (by rw [cellsI_length, HL5.out, ← HV.out.2.2.2.2.2]; have := HN.out; omega) (cellsI_one _) gi w5 (Below.refl _ _) (Nat.le_refl _)
          go_wp2_with fail
          go_meet
          case rel => exact ⟨rfl, h6, hb6⟩
      case rest =>
        obtain ⟨rfl, h6, hb6⟩ := hcut
        generalize wc = w6 at *
        have hgl6 : gi < w6.heap.size := by
          rcases Nat.lt_or_ge gi w6.heap.size with h | h
          · exact h
          · have := h6.out
            rw [Array.getElem?_eq_none h] at this
            cases this
        have hbw6 : Below w1.heap.size w1 w6 := HB5.out.1.trans (hb6.mono hw1g)
        have kd6 := (show Blk w6 bd _ _ from (hb6.block bd hbdl).trans HKD5.out)
        have hV6 := HV1.out.1.below hbw6
        have HKR6 := Lib.hid (HV1.out.2.1.below hbw6)
        have HRD6 := Lib.hid hV6.its
        have HKD6 := Lib.hid kd6
        have HB6 := Lib.hid (And.intro hbw6 (HB5.out.2.trans hb6))
        have x0 := HKR6.out.cell 0
        have x1 := hV6.blk.cell 1
        have HV6 := Lib.hid hV6
        have x2 := kd6.cell 1
        have t5 : (0 : Int) ≤ (P : Int) := by omega
        have t6 : (P : Int) ≤ (N : Int) := by have := HN.out; have := HP.out; omega
        have t7 : (N : Int) - (P : Int) = ((N - P : Nat) : Int) := by omega
        have t8 : (0 : Int) ≤ ((ni - tail : Nat) : Int) := by omega
        have t9 : ((ni - tail : Nat) : Int) ≤ (ni : Int) := by omega
        have ta : (ni : Int) - ((ni - tail : Nat) : Int) = (tail : Int) := by omega
        have tb : (ci : Int) - ((ni - tail : Nat) : Int) = ((ci - (ni - tail) : Nat) : Int) := by omega
        have HL6 : Hid ((splice (splice M0.toList 0 (cellsI (I.take hd))) (hd * 8) (cellsI its)).length = N * 8) := Lib.hid (by
          have h2 := HL5.out
          have h3 := HN.out
          have h4 := HV.out.2.2.2.2.2
          generalize splice M0.toList 0 (cellsI (I.take hd)) = X at h2
          simp only [splice, List.length_append, List.length_take, List.length_drop, cellsI_length]
          omega)
        clear kd6 hV6 hbw6 hb6 t3 t4 t1 t2
        go_upto_region 7 with fail
        go_cut [] from 85 to 98 (fun wx => Hid (wx.heap[gi]? = some (.cells (cellsI (I.take hd) ++ (cellsI its ++ cellsI (I.drop (ni - tail)))).toArray 82 (0, 0))) ∧ Below gi w6 wx)
        case first =>
          rcases hin with ⟨rfl, rfl⟩ | ⟨g, off, rfl⟩
          · have H0 := Lib.hid (show ni = 0 from HRD6.out.none)
            refine (wpIn_wide (n := 1)).1 ?_
            (refine quiet_then 13 (by decide) (by kernel_rfl) (by kernel_rfl) (by kernel_rfl) (by kernel_rfl) ?_
             dsimp only [List.take_succ_cons, List.take_zero]
             repeat (first
               | gi_big_quiet_step (fail)
               | (refine wpQuietIn_step (fun _ _ _ _ => trivial) (fun K hK => ?_)
                  go_simp
                  refine hK _ ?_
                  clear hK K))
             refine wpQuietIn_nil ?_
             intro _ hw'
             obtain ⟨nq, hw''⟩ := hw'
             subst hw'')
            obtain ⟨w7, hw7⟩ : ∃ X, w6.drewN nq = X := ⟨_, rfl⟩
            have hb7 : Below w6.heap.size w6 w7 := by rw [← hw7]; exact below_drewN (Below.refl _ _) nq
            rw [hw7]
            clear hw7
            have hg7 := (hb7.block gi hgl6).trans h6.out
            have hrd7 := HRD6.out.below hb7
            refine wpAnyIn_ready (rs := [13]) (by kernel_rfl) (by simp) ?_
            refine AllReadyIn.cons rfl (fun K hK => ?_) AllReadyIn.nil
            refine stepIn_copy_k (by rfl) _ _ 64 64 (by rfl) 82 Tryz.underlying64 8 szIt _ _ _ _ _ _ (by rfl) (by rfl) gi (P * 8) (splice (splice M0.toList 0 (cellsI (I.take hd))) (hd * 8) (cellsI its)) 82 hg7 tail (by have := HN.out; have := HP.out; show min _ _ = _; omega) (cellsI (I.drop (ni - tail))) (by rw [cellsI_length, List.length_drop]; have := hrd7.len; omega) (fun h => by have := H0.out; omega) (by rw [cellsI_length, List.length_drop, HL6.out]; have := hrd7.len; have := HN.out; have := HP.out; omega) (cellsI_one _) gi w7 (Below.refl _ _) (Nat.le_refl _) ?_
            intro w8 h8 hb8
            have h8' : Hid (w8.heap[gi]? = some (.cells (cellsI (I.take hd) ++ (cellsI its ++ cellsI (I.drop (ni - tail)))).toArray 82 (0, 0))) := Lib.hid (by
              have h9 := h8.out
              rw [show P * 8 = hd * 8 + nf * 8 by have := HP.out; omega, splice_splice_splice M0.toList (cellsI (I.take hd)) (cellsI its) (cellsI (I.drop (ni - tail))) (hd * 8) (nf * 8) (by rw [cellsI_length, List.length_take]; have := hrd7.len; omega) (by rw [cellsI_length, HV.out.2.2.2.2.2]) (by rw [Array.length_toList, cellsI_length, List.length_drop]; have := HM1.out; have := hrd7.len; have := HN.out; omega)] at h9
              exact h9)
            refine hK _ _ ?_
            clear hK K
            refine wpAnyIn_done (by kernel_rfl) ?_ _
            go_step
            go_step
            go_meet
            case rel => exact ⟨h8', (hb7.mono (by omega)).trans hb8⟩
          · refine (wpIn_wide (n := 1)).1 ?_
            (refine quiet_then 13 (by decide) (by kernel_rfl) (by kernel_rfl) (by kernel_rfl) (by kernel_rfl) ?_
             dsimp only [List.take_succ_cons, List.take_zero]
             repeat (first
               | gi_big_quiet_step (fail)
               | (refine wpQuietIn_step (fun _ _ _ _ => trivial) (fun K hK => ?_)
                  go_simp
                  refine hK _ ?_
                  clear hK K))
             refine wpQuietIn_nil ?_
             intro _ hw'
             obtain ⟨nq, hw''⟩ := hw'
             subst hw'')
            obtain ⟨w7, hw7⟩ : ∃ X, w6.drewN nq = X := ⟨_, rfl⟩
            have hb7 : Below w6.heap.size w6 w7 := by rw [← hw7]; exact below_drewN (Below.refl _ _) nq
            rw [hw7]
            clear hw7
            have hg7 := (hb7.block gi hgl6).trans h6.out
            have hrd7 := HRD6.out.below hb7
            refine wpAnyIn_ready (rs := [13]) (by kernel_rfl) (by simp) ?_
            refine AllReadyIn.cons rfl (fun K hK => ?_) AllReadyIn.nil
            refine stepIn_copy_k (by rfl) _ _ 64 64 (by rfl) 82 Tryz.underlying64 8 szIt _ _ _ _ _ _ (by rfl) (by rfl) gi (P * 8) (splice (splice M0.toList 0 (cellsI (I.take hd))) (hd * 8) (cellsI its)) 82 hg7 tail (by have := HN.out; have := HP.out; show min _ _ = _; omega) (cellsI (I.drop (ni - tail))) (by rw [cellsI_length, List.length_drop]; have := hrd7.len; omega) (fun h => by
              obtain ⟨b', off', e', _, hcs⟩ := hrd7.cs (by omega)
              cases e'
              refine ⟨?_, ⟨g, off + (ni - tail) * 8, none⟩, ?_, fun j v hj => ?_⟩
              · exact if_neg (by have := HN.out; have := HP.out; omega)
              · exact if_neg (by omega)
              · rw [addr_plus, Nat.add_assoc]
                refine hcs _ v ?_
                rw [cellsI_drop, List.getElem?_drop] at hj
                exact hj) (by rw [cellsI_length, List.length_drop, HL6.out]; have := hrd7.len; have := HN.out; have := HP.out; omega) (cellsI_one _) gi w7 (Below.refl _ _) (Nat.le_refl _) ?_
            intro w8 h8 hb8
            have h8' : Hid (w8.heap[gi]? = some (.cells (cellsI (I.take hd) ++ (cellsI its ++ cellsI (I.drop (ni - tail)))).toArray 82 (0, 0))) := Lib.hid (by
              have h9 := h8.out
              rw [show P * 8 = hd * 8 + nf * 8 by have := HP.out; omega, splice_splice_splice M0.toList (cellsI (I.take hd)) (cellsI its) (cellsI (I.drop (ni - tail))) (hd * 8) (nf * 8) (by rw [cellsI_length, List.length_take]; have := hrd7.len; omega) (by rw [cellsI_length, HV.out.2.2.2.2.2]) (by rw [Array.length_toList, cellsI_length, List.length_drop]; have := HM1.out; have := hrd7.len; have := HN.out; omega)] at h9
              exact h9)
            refine hK _ _ ?_
            clear hK K
            refine wpAnyIn_done (by kernel_rfl) ?_ _
            go_step
            go_step
            go_meet
            case rel => exact ⟨h8', (hb7.mono (by omega)).trans hb8⟩
        case rest =>
          obtain ⟨h8, hb8⟩ := hcut
          generalize wc = w8 at *
          have hgl8 : gi < w8.heap.size := by
            rcases Nat.lt_or_ge gi w8.heap.size with h | h
            · exact h
            · have := h8.out
              rw [Array.getElem?_eq_none h] at this
              cases this
          have hbw8 : Below w1.heap.size w1 w8 := HB6.out.1.trans (hb8.mono hw1g)
          have kd8 := (show Blk w8 bd _ _ from (hb8.block bd hbdl).trans HKD6.out)
          have hV8 := HV1.out.1.below hbw8
          have kr8 := HV1.out.2.1.below hbw8
          obtain ⟨M, hM⟩ : ∃ M : Int, (T.size : Int) - (s.size : Int) = M := ⟨_, rfl⟩
          obtain ⟨B, hB⟩ : ∃ B : Int, (ng : Int) - (re : Int) = B := ⟨_, rfl⟩
          have hs9 : s.size ≤ 900 := hV8.sz
          have u1 : IntKind.i64.wrap ((T.size : Int) - (s.size : Int)) = M := by rw [IntWalk.i64_in _ (by omega)]; exact hM
          have u2 : IntKind.i64.wrap ((ng : Int) - (re : Int)) = B := by rw [IntWalk.i64_in _ (by omega)]; exact hB
          have HMB := Lib.hid (And.intro hM hB)
          have x0 := kr8.cell 0
          have y1 := kr8.cell 1
          have y7 := kr8.cell 7
          have x1 := hV8.blk.cell 0
          have HB8 := Lib.hid (And.intro hbw8 (HB6.out.2.trans hb8))
          have HKD8 := Lib.hid kd8
          have HV8 := Lib.hid hV8
          clear hM hB hbw8 hb8 kd8 hV8 kr8 x2 t5 t6 t7 t8 t9 ta tb h6 HV6 HKD6 HB6
          go_upto_region 8 with fail
          go_quiet (fail)
          obtain ⟨w9, hw9⟩ : ∃ X, w8.drewN nq = X := ⟨_, rfl⟩
          have hb9 : Below w8.heap.size w8 w9 := by rw [← hw9]; exact below_drewN (Below.refl _ _) nq
          rw [hw9]
          clear hw9
          have kd9 := HKD8.out.below hb9
          have hbw9 : Below w1.heap.size w1 w9 := HB8.out.1.trans (hb9.mono HB8.out.1.size)
          have x2 := kd9.cell 1
          have t5 : (0 : Int) ≤ (P : Int) := by omega
          have t6 : (P : Int) ≤ (N : Int) := by have := HN.out; have := HP.out; omega
          have t7 : (N : Int) - (P : Int) = (tail : Int) := by have := HN.out; have := HP.out; omega
          have hg9 := Lib.hid ((hb9.block gi hgl8).trans h8.out)
          have HB9 := Lib.hid (And.intro hbw9 (HB8.out.2.trans (hb9.mono (by omega))))
          have HKD9 := Lib.hid kd9
          have hgl9 : gi < w9.heap.size := Nat.lt_of_lt_of_le hgl8 hb9.size
          clear kd9 hbw9 hb9 x0 x1 y1 y7 u1 u2 h8
          go_upto_region 9 with fail
          go_cut [124, 125] from 120 to 125 (fun v u wx => v = .int .i64 (tail : Int) ∧ u = .int .i64 ((0 : Nat) : Int) ∧ wx = w9)
          case first =>
            by_cases hNh : N = P
            · have H0 : Hid (tail = 0) := Lib.hid (by have := HN.out; have := HP.out; omega)
              subst hNh
              go_wp2_with fail
              go_meet
              case rel => exact ⟨by first | rfl | (rw [H0.out]; rfl), rfl, rfl⟩
            · go_wp2_with fail
              go_meet
              case rel => exact ⟨by rw [show N - P = tail by omega], rfl, rfl⟩
          case rest =>
            obtain ⟨rfl, rfl, hw⟩ := hcut
            generalize wc = wd at *
            subst hw
            obtain ⟨L, hL⟩ : ∃ L, I.take hd ++ (its ++ I.drop (ni - tail)) = L := ⟨_, rfl⟩
            have hLl : L.length = N := by
              rw [← hL, List.length_append, List.length_append, List.length_take, List.length_drop]
              have := HV.out.1.its.len
              have := HV.out.2.2.2.2.2
              have := HN.out
              omega
            have hcl : cellsI (I.take hd) ++ (cellsI its ++ cellsI (I.drop (ni - tail))) = cellsI L := by rw [← hL, cellsI_append, cellsI_append]
            have hLd : ∀ i, i < tail → ∃ q, L[P + i]? = some q ∧ q ∈ I.drop (ni - tail) ∧ I[ni - tail + i]? = some q := fun i hi => by
              have hl := HV.out.1.its.len
              obtain ⟨q, hi2⟩ : ∃ q, I[ni - tail + i]? = some q := ⟨I[ni - tail + i]'(by omega), List.getElem?_eq_getElem _⟩
              have hi3 : (I.drop (ni - tail))[i]? = some q := by rw [List.getElem?_drop]; exact hi2
              refine ⟨q, ?_, List.mem_of_getElem? hi3, hi2⟩
              rw [← hL, ← List.append_assoc, List.getElem?_append_right (by rw [List.length_append, List.length_take]; have := HV.out.2.2.2.2.2; have := HP.out; omega)]
              rw [show P + i - (I.take hd ++ its).length = i by rw [List.length_append, List.length_take]; have := HV.out.2.2.2.2.2; have := HP.out; omega]
              exact hi3
            have HL := Lib.hid (And.intro hL (And.intro hLl (And.intro hcl hLd)))
            clear hL hLl hcl hLd
            go_wp2_with fail
            go_loopw [125] (fun v wr => DcL L (fun q => (q.1.mv s.size T.size, q.2.mv F.length re)) P N tail gi wd v wr) (fun v _ => tail - (intOf v).toNat)
            case atStart =>
              refine ⟨0, _, Nat.zero_le _, rfl, hg9.out, ?_, fun j q hj => ?_, Frm.refl _ _⟩
              · rw [HL.out.2.2.1]
                show (cellsI L).length = _
                rw [cellsI_length, HL.out.2.1]
              · rw [if_neg (by omega), HL.out.2.2.1]
                exact Ia.of_list rfl hj
            case round =>
              obtain ⟨i, arr, hi, rfl, kg, hsz, hia, hF⟩ := hrel
              have kdr := (show Blk wr bd _ _ from (hF.block bd HKD9.out.lt (by omega)).trans HKD9.out)
              have x2r := kdr.cell 1
              have HIA := Lib.hid (And.intro hsz hia)
              have HFR2 := Lib.hid hF
              have HKG := Lib.hid kg
              have HKDR := Lib.hid kdr
              have hgr : gi < wr.heap.size := kg.lt
              by_cases hlt : i < tail
              · obtain ⟨q, hq, hqm, hqI⟩ := HL.out.2.2.2 i hlt
                have hmq := HMV.out.1 q hqm
                have hsum := Pth.sum HV.out.1.path _ q hqI
                have hq2 : q.2.frm ≤ q.2.en ∧ q.2.en ≤ D.length := by
                  have h9 := doc_mk w b s I E D oi ni ci od nd cd HV.out.1 (ni - tail + i)
                  unfold mkAt at h9
                  rw [hqI] at h9
                  exact h9
                have hiq := hia (P + i) q hq
                rw [if_neg (by omega)] at hiq
                have hln' := HV.out.1.ln
                have HMO := Lib.hid (move_any wr gi ((P + i) * 8) arr q kg hiq M (q.1.frm + T.size - s.size) (q.1.en + T.size - s.size) F.length re (by have := HMB.out.1; omega) (by have := HMB.out.1; omega) (by omega) (by omega) (by omega) hmq.2 hq2.1 (by omega))
                rw [show (F.length : Int) - (re : Int) = B from by have := HMB.out.2; have := HV.out.2.2.2.1; omega] at HMO
                obtain ⟨J, hJ⟩ : ∃ J, P + i = J := ⟨_, rfl⟩
                have hJN : J < N := by have := HN.out; have := HP.out; omega
                have v1 : (i : Int) < (tail : Int) := by omega
                have v2 : IntKind.i64.wrap ((P : Int) + (i : Int)) = (J : Int) := by rw [IntWalk.i64_in _ (by have := HP.out; omega)]; omega
                have v3 : (0 : Int) ≤ (J : Int) := by omega
                have v4 : (J : Int) < (N : Int) := by omega
                rw [hJ] at HMO
                have HJ := Lib.hid hJ
                have HQ := Lib.hid (And.intro hq hmq)
                clear hq hqm hqI hmq hsum hq2 hiq hJ hia hsz kg hF kdr hln'
                go_wp2_with fail
                refine (HMO.out).mono ?_
                rintro e2 w11 ⟨rfl, ⟨arr', kg', hsz', hia', hoth⟩, hF'⟩
                clear x2r
                go_wp2
                go_roundw
                case rel =>
                  refine ⟨i + 1, arr', by omega, by go_num, kg', by rw [hsz', HIA.out.1], fun j u hj => ?_, HFR2.out.trans hF' (fun _ _ h => h)⟩
                  by_cases hji : j = J
                  · have e9 : u = q := by
                      have := HQ.out.1
                      rw [HJ.out, ← hji, hj] at this
                      cases this
                      rfl
                    rw [if_pos (by have := HJ.out; omega), e9, hji]
                    exact hia'
                  · have h9 := HIA.out.2 j u hj
                    have e9 : (P ≤ j ∧ j < P + (i + 1)) = (P ≤ j ∧ j < P + i) := by
                      have := HJ.out
                      apply propext
                      constructor <;> (intro h; omega)
                    simp only [e9]
                    exact h9.keep (fun k h1 h2 => hoth k (by have := HJ.out; omega))
                case measure => simp [intOf]; omega
              · have v1 : ¬ (i : Int) < (tail : Int) := by omega
                clear hia hsz kg hF kdr
                have hrz : rb < w1.heap.size ∧ b < w1.heap.size ∧ z < w1.heap.size := ⟨HV1.out.2.1.lt, HV1.out.1.blk.lt, HV1.out.2.2.2.2.lt⟩
                have hrg : rb ≠ gi ∧ b ≠ gi ∧ z ≠ gi := ⟨by omega, by omega, by omega⟩
                have hbz : z < bd ∧ rb < bd ∧ b < bd := by have := HK4.out.2.2.2.2.1; omega
                have hf1 : Frm (fun k => k = gi) w1 wr := (Frm.of_below (p := fun k => k = gi) HB9.out.1).trans HFR2.out (fun _ _ h => h)
                have krr := HV1.out.2.1.frm hf1 hrg.1
                have kbr := HV1.out.1.blk.frm hf1 hrg.2.1
                have kzr := HV1.out.2.2.2.2.frm hf1 hrg.2.2
                have HIT := Lib.hid (show i = tail by omega)
                obtain ⟨E', hE'⟩ : ∃ E', (if 0 < tail then E.mv F.length re else (⟨mA, mB, mf, me⟩ : Mk)) = E' := ⟨_, rfl⟩
                obtain ⟨eA, eB, ef, ee⟩ := E'
                go_upto_if 139 with fail
                go_cut [] from 139 to 149 (fun wx => Blk wx bd #[.string T, .slice (some ⟨gi, 0, none⟩) N N, .int .i64 (eA : Int), .bool eB, .int .i64 (ef : Int), .int .i64 (ee : Int), .slice oa (ng + (nd - re)) oc] 68 ∧ Frm (fun k => k = bd) wr wx)
                case first =>
                  by_cases htl : 0 < tail
                  · rw [if_pos htl] at hE'
                    have hEl := (HV.out.1.path).le.2.2.2.2 (Nat.le_refl _) (Nat.zero_le _)
                    have hHM := moved_any wr E F.length re (by omega) (HMV.out.2 htl) hEl.1 (by have := HV1.out.1.ln; omega)
                    rw [show (F.length : Int) - (re : Int) = B from by have := HMB.out.2; have := HV.out.2.2.2.1; omega, hE'] at hHM
                    unfold aggM at hHM
                    dsimp only at hHM
                    have HHM := Lib.hid hHM
                    have n0 := krr.cell 0
                    have n2 := kbr.cell 2
                    have n3 := kbr.cell 3
                    have n4 := kbr.cell 4
                    have n5 := kbr.cell 5
                    have n6 : (0 : Int) < (tail : Int) := by omega
                    have KZR := Lib.hid kzr
                    clear hE' hEl hHM x2r krr kbr kzr hf1 hrz hrg
                    go_wp2_with fail
                    refine (HHM.out).mono ?_
                    rintro e3 w12 ⟨rfl, hb12⟩
                    have kd12 := HKDR.out.below hb12
                    have o2 := kd12.cell 2
                    have o3 := kd12.cell 3
                    have o4 := kd12.cell 4
                    have o5 := kd12.cell 5
                    have p2 := kd12.frozen 2
                    have p3 := kd12.frozen 3
                    have p4 := kd12.frozen 4
                    have p5 := kd12.frozen 5
                    have kf := (((kd12.set 2 (.int .i64 (eA : Int))).set 3 (.bool eB)).set 4 (.int .i64 (ef : Int))).set 5 (.int .i64 (ee : Int))
                    have kf' : Blk ((((w12.setCell ⟨bd, 2, none⟩ (.int .i64 (eA : Int))).setCell ⟨bd, 3, none⟩ (.bool eB)).setCell ⟨bd, 4, none⟩ (.int .i64 (ef : Int))).setCell ⟨bd, 5, none⟩ (.int .i64 (ee : Int))) bd #[.string T, .slice (some ⟨gi, 0, none⟩) N N, .int .i64 (eA : Int), .bool eB, .int .i64 (ef : Int), .int .i64 (ee : Int), .slice oa (ng + (nd - re)) oc] 68 := by simpa using kf
                    have hff : Frm (fun k => k = bd) wr ((((w12.setCell ⟨bd, 2, none⟩ (.int .i64 (eA : Int))).setCell ⟨bd, 3, none⟩ (.bool eB)).setCell ⟨bd, 4, none⟩ (.int .i64 (ef : Int))).setCell ⟨bd, 5, none⟩ (.int .i64 (ee : Int))) := ((((Frm.of_below (p := fun k => k = bd) hb12).put 2 _).put 3 _).put 4 _).put 5 _
                    have HFF := Lib.hid (And.intro kf' hff)
                    clear kf kf' hff kd12 hb12 n0 n2 n3 n4 n5
                    go_wp2_with fail
                    go_meet
                    case rel => exact HFF.out
                  · rw [if_neg htl] at hE'
                    have n6 : ¬ (0 : Int) < (tail : Int) := by omega
                    injection hE' with e1 e2 e3 e4
                    subst e1 e2 e3 e4
                    have KZR := Lib.hid (And.intro kzr (And.intro krr kbr))
                    clear x2r krr kbr kzr hf1 hrz hrg
                    go_wp2_with fail
                    go_meet
                    case rel => exact ⟨HKDR.out, Frm.refl _ _⟩
                case rest =>
                  obtain ⟨kf, hff⟩ := hcut
                  generalize wc = wf at *
                  have hzd : z ≠ bd := by omega
                  have hgd : gi ≠ bd := by omega
                  have kzf := kzr.frm hff hzd
                  have kgf := HKG.out.frm hff hgd
                  have hf2 : Frm (fun k => k = gi ∨ k = bd) w1 wf := (hf1.mono (fun _ _ h => .inl h)).trans hff (fun _ _ h => .inr h)
                  have c0 := kf.cell 0
                  have c1 := kf.cell 1
                  have c2 := kf.cell 2
                  have c3 := kf.cell 3
                  have c4 := kf.cell 4
                  have c5 := kf.cell 5
                  have c6 := kf.cell 6
                  have z0 := kzf.cell 0
                  have z1 := kzf.cell 1
                  have z2 := kzf.cell 2
                  have z3 := kzf.cell 3
                  have z4 := kzf.cell 4
                  have z5 := kzf.cell 5
                  have z6 := kzf.cell 6
                  have g0 := kzf.frozen 0
                  have g1 := kzf.frozen 1
                  have g2 := kzf.frozen 2
                  have g3 := kzf.frozen 3
                  have g4 := kzf.frozen 4
                  have g5 := kzf.frozen 5
                  have g6 := kzf.frozen 6
                  have HEND := Lib.hid (And.intro kzf (And.intro kgf (And.intro hf2 (And.intro hE' (And.intro hrz (And.intro hbz (And.intro kf hff)))))))
                  clear kzf kgf hf2 hE' hrz hbz kf hff hf1 krr kbr kzr x2r hrg hzd hgd
                  go_wp2
                  obtain ⟨kzf, kgf, hf2, hE', hrz, hbz, kf, hff⟩ := HEND.out
                  have k0 := kzf.set 0 (.string T)
                  have k1 := k0.set 1 (.slice (some ⟨gi, 0, none⟩) N N)
                  have k2 := k1.set 2 (.int .i64 (eA : Int))
                  have k3 := k2.set 3 (.bool eB)
                  have k4 := k3.set 4 (.int .i64 (ef : Int))
                  have k5 := k4.set 5 (.int .i64 (ee : Int))
                  have k6 := k5.set 6 (.slice oa (ng + (nd - re)) oc)
                  have hfz : Frm (fun k => k = z) wf (((((((wf.setCell ⟨z, 0, none⟩ (.string T)).setCell ⟨z, 1, none⟩ (.slice (some ⟨gi, 0, none⟩) N N)).setCell ⟨z, 2, none⟩ (.int .i64 (eA : Int))).setCell ⟨z, 3, none⟩ (.bool eB)).setCell ⟨z, 4, none⟩ (.int .i64 (ef : Int))).setCell ⟨z, 5, none⟩ (.int .i64 (ee : Int))).setCell ⟨z, 6, none⟩ (.slice oa (ng + (nd - re)) oc)) :=
                    ((((((Frm.put (Frm.refl _ wf) 0 _).put 1 _).put 2 _).put 3 _).put 4 _).put 5 _).put 6 _
                  obtain ⟨wz, hwz⟩ : ∃ X, ((((((wf.setCell ⟨z, 0, none⟩ (.string T)).setCell ⟨z, 1, none⟩ (.slice (some ⟨gi, 0, none⟩) N N)).setCell ⟨z, 2, none⟩ (.int .i64 (eA : Int))).setCell ⟨z, 3, none⟩ (.bool eB)).setCell ⟨z, 4, none⟩ (.int .i64 (ef : Int))).setCell ⟨z, 5, none⟩ (.int .i64 (ee : Int))).setCell ⟨z, 6, none⟩ (.slice oa (ng + (nd - re)) oc) = X := ⟨_, rfl⟩
                  rw [hwz] at k6 hfz ⊢
                  have k7 : Blk wz z #[.string T, .slice (some ⟨gi, 0, none⟩) N N, .int .i64 (eA : Int), .bool eB, .int .i64 (ef : Int), .int .i64 (ee : Int), .slice oa (ng + (nd - re)) oc] 68 := by simpa using k6
                  have v0 := k7.cell 0
                  have v1 := k7.cell 1
                  have v2 := k7.cell 2
                  have v3 := k7.cell 3
                  have v4 := k7.cell 4
                  have v5 := k7.cell 5
                  have v6 := k7.cell 6
                  clear k0 k1 k2 k3 k4 k5 k6 hwz
                  refine bodyPost_ret (v := .agg #[.string T, .slice (some ⟨gi, 0, none⟩) N N, .int .i64 (eA : Int), .bool eB, .int .i64 (ef : Int), .int .i64 (ee : Int), .slice oa (ng + (nd - re)) oc]) (by simp [results, Tryz.results35, go_sem, v0, v1, v2, v3, v4, v5, v6]) rfl ?_
                  have hzg : gi ≠ z := by have := HZ.out; omega
                  have kgz := kgf.frm hfz hzg
                  have hf3 : Frm (fun k => k = gi ∨ k = bd ∨ k = z) w1 wz := (hf2.mono (fun _ _ h => by rcases h with h | h <;> simp [h])).trans hfz (fun _ _ h => .inr (.inr h))
                  have hB1z : Below w.heap.size w wz := HB1.out.trans (hf3.below HB1.out.size (fun j hj => by have := HZ.out; have := HB1.out.size; rcases hj with e | e | e <;> omega))
                  have hO4z : wz.ownsRow w1.heap.size 87 2 (.slice oa (ng + (nd - re)) oc) (ng + (nd - re)) (cellsD (F ++ D.drop re)) := by
                    obtain ⟨_, _, hO, _, _, hne, hol⟩ := HK4.out
                    refine own_frm hfz (own_frm hff (own_frm HFR2.out (own_frm (frm_above HB9.out.2) hO (fun k hk e => ?_)) (fun k hk e => ?_)) (hne ·)) (fun k hk e => ?_)
                    · have := hol k hk; omega
                    · have := hol k hk; omega
                    · have := own_ge hO k hk; omega
                  have hlen := HV.out.1.its.len
                  have hnfl := HV.out.2.2.2.2.2
                  have hlist := dc_last (A := I.take hd) (B := its) (C := I.drop (ni - tail)) (f := fun q => (q.1.mv s.size T.size, q.2.mv F.length re)) (P := P) (N := N) (tail := tail) (arr := arr) (by rw [List.length_append, List.length_take]; have := HP.out; omega) (by rw [List.length_drop]; omega) HIA.out.1 (by have := HN.out; have := HP.out; omega) (by rw [HL.out.1]; have := HIA.out.2; rwa [HIT.out] at this)
                  have hOI : wz.ownsRow w.heap.size 82 8 (.slice (some ⟨gi, 0, none⟩) N N) N (cellsI (I.take hd ++ its ++ (I.drop (ni - tail)).map fun q => (q.1.mv s.size T.size, q.2.mv F.length re))) := by
                    rw [← hlist]
                    have hal : arr.toList.length = N * 8 := by rw [Array.length_toList]; exact HIA.out.1
                    refine ⟨hal, .inr ⟨gi, N, arr, rfl, ?_, kgz, Nat.le_refl _, ?_, HIA.out.1, List.take_of_length_le (Nat.le_of_eq hal)⟩⟩
                    · have := HB1.out.size; omega
                    · unfold maxLen; have := HN.out; omega
                  unfold DocP
                  rw [HR.out, HN.out]
                  exact ⟨⟨eA, eB, ef, ee⟩, oa, oc, gi, rfl, hE'.symm, hOI, own_less hO4z HB1.out.size, hB1z⟩
end
end Go.Proofs.YtdjcidackkogjaaGreatDoor

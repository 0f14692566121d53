/- What the law's simple and words of layer 12 (rules) return: the nodes of one command of so many words; leaves that are words. Condition: at most a thousand of them. -/
import Derived.Test.YtmjckjbdkffkoaaDoorRuV
import Derived.Test.YtmjckjbdkffkoaaDoorApI
namespace Go.Proofs.YtmjckjbdkffkoaaDoor
open Go.RowKit
set_option linter.unusedVariables false

/-- The nodes of one command of n words, of which i are there. -/
def smpL (n i : Nat) : List Nd := [⟨1, 0, n, -1⟩, ⟨2, 0, n, 0⟩, ⟨3, 0, n, 1⟩, ⟨4, 0, n, 2⟩, ⟨5, 0, n, 3⟩] ++ (List.range i).map fun j : Nat => (⟨7, (j : Int), (j : Int) + 1, 4⟩ : Nd)
theorem smpL_len (n i : Nat) : (smpL n i).length = i + 5 := by
  unfold smpL
  rw [List.length_append, List.length_map, List.length_range]
  exact Nat.add_comm _ _
theorem smpL_next (n i : Nat) : smpL n (i + 1) = smpL n i ++ [⟨7, (i : Int), (i : Int) + 1, 4⟩] := by
  unfold smpL
  rw [List.range_succ, List.map_append, List.append_assoc]
  rfl
theorem src_four (w : World) (a b c d : Value) (t : TypeId) : Src (w.alloc (.cells #[a, b, c, d] t)) (.slice (some ⟨w.heap.size, 0, none⟩) 1 1) 1 [a, b, c, d] := by
  refine .inr ⟨w.heap.size, 0, 1, rfl, by simp, fun j u hj => ?_⟩
  have k := (Blk.new w #[a, b, c, d] t).cell j
  rw [Nat.zero_add, k, ← hj]
  simp
theorem infoLf : (Tryd.prog.info? 35).map (fun i => (i.zero, i.size, i.bytes)) = some (some (.agg #[.int .i64 0, .string ⟨#[]⟩, .int .i64 0, .int .i64 0]), 4, 40) := by kernel_rfl
/-- A leaf as cells. -/
def cellF (p : Lf) : List Value := [.int .i64 p.k, .string p.s, .int .i64 p.f, .int .i64 p.t]
def cellsF (l : List Lf) : List Value := l.flatMap cellF
theorem cellsF_cons (a : Lf) (l : List Lf) : cellsF (a :: l) = .int .i64 a.k :: .string a.s :: .int .i64 a.f :: .int .i64 a.t :: cellsF l := by
  unfold cellsF; rw [List.flatMap_cons]; rfl
theorem cellsF_length (l : List Lf) : (cellsF l).length = l.length * 4 := by
  induction l with
  | nil => rfl
  | cons a l ih => rw [cellsF_cons]; simp only [List.length_cons, ih]; omega
theorem cellsF_append (l k : List Lf) : cellsF (l ++ k) = cellsF l ++ cellsF k := by unfold cellsF; rw [List.flatMap_append]
theorem cellsF_at : ∀ {l : List Lf} {j : Nat} {p : Lf}, l[j]? = some p → ∀ c v, (cellF p)[c]? = some v → (cellsF l)[j * 4 + c]? = some v
  | [], j, p, h, c, v, hv => by simp at h
  | a :: l, 0, p, h, c, v, hv => by
    simp at h
    subst h
    have hc : c < (cellF a).length := (List.getElem?_eq_some_iff.1 hv).1
    show (cellsF (a :: l))[0 * 4 + c]? = _
    rw [Nat.zero_mul, Nat.zero_add]
    unfold cellsF
    rw [List.flatMap_cons, List.getElem?_append_left hc]
    exact hv
  | a :: l, j + 1, p, h, c, v, hv => by
    have h' : l[j]? = some p := by simpa using h
    have ih := cellsF_at h' c v hv
    rw [cellsF_cons, show (j + 1) * 4 + c = j * 4 + c + 1 + 1 + 1 + 1 by omega]
    simpa using ih
def lfl (L : List Lf) (i : Nat) : Lf := L[i]?.getD ⟨0, ⟨#[]⟩, 0, 0⟩
theorem owns_lfrow {w : World} {base n : Nat} {oa : Option Addr} {oc : Nat} {L : List Lf} (h : w.ownsRow base 35 4 (.slice oa n oc) n (cellsF L)) : n = L.length ∧ LfRow w oa n (lfl L) := by
  have hn : n = L.length := by have := h.1; rw [cellsF_length] at this; omega
  refine ⟨hn, fun i hi => ?_⟩
  obtain ⟨ob, ocap, hov, _, _, _, hlt⟩ := owns_nil h (by omega)
  obtain ⟨rfl, rfl⟩ : oa = some ⟨ob, 0, none⟩ ∧ oc = ocap := by simpa using hov
  obtain ⟨x, hx⟩ : ∃ x, L[i]? = some x := ⟨L[i]'(by omega), List.getElem?_eq_getElem (by omega)⟩
  have hc : ∀ c v, (cellF x)[c]? = some v → w.cell? ⟨ob, i * 4 + c, none⟩ = some v := fun c v hv => by
    have := h.cells (g := ob) rfl (i * 4 + c) v (cellsF_at hx c v hv)
    rwa [Addr.add_lit, Nat.zero_add] at this
  rw [show lfl L i = x by unfold lfl; rw [hx]; rfl]
  refine ⟨ob, 0, rfl, hlt, ?_, ?_, ?_, ?_⟩
  · simpa using hc 0 _ rfl
  · simpa using hc 1 _ rfl
  · simpa using hc 2 _ rfl
  · simpa using hc 3 _ rfl
/-- A row of texts can be read. -/
def SRow (w : World) (ao : Option Addr) (n : Nat) (tx : Nat → ByteArray) : Prop :=
  ∀ i, i < n → ∃ b off, ao = some ⟨b, off, none⟩ ∧ b < w.heap.size ∧ w.cell? ⟨b, off + i, none⟩ = some (.string (tx i))
theorem SRow.below {w w' : World} {ao : Option Addr} {n : Nat} {tx : Nat → ByteArray} (h : SRow w ao n tx) (hb : Below w.heap.size w w') : SRow w' ao n tx := fun i hi => by
  obtain ⟨b, off, h1, h2, c⟩ := h i hi
  exact ⟨b, off, h1, Nat.lt_of_lt_of_le h2 hb.size, (hb.cell (p := ⟨b, off + i, none⟩) h2).trans c⟩
def wrdL (tx : Nat → ByteArray) (i : Nat) : List Lf := (List.range i).map fun j => ⟨6, tx j, 0, 0⟩
theorem wrdL_next (tx : Nat → ByteArray) (i : Nat) : wrdL tx (i + 1) = wrdL tx i ++ [⟨6, tx i, 0, 0⟩] := by
  unfold wrdL
  rw [List.range_succ, List.map_append]
  rfl
theorem wrdL_at {tx : Nat → ByteArray} {n i : Nat} (h : i < n) : lfl (wrdL tx n) i = ⟨6, tx i, 0, 0⟩ := by
  unfold lfl wrdL
  rw [List.getElem?_map, List.getElem?_range h]
  rfl
def SmR (w : World) (n : Nat) (v3 v4 : Value) (wr : World) : Prop :=
  ∃ (i : Nat) (oa : Option Addr) (oc : Nat), i ≤ n ∧ v4 = .int .i64 (i : Int) ∧ v3 = .slice oa (i + 5) oc ∧ wr.ownsRow w.heap.size 27 4 (.slice oa (i + 5) oc) (i + 5) (cellsN (smpL n i)) ∧ Below w.heap.size w wr
def WdR (w : World) (n : Nat) (tx : Nat → ByteArray) (v3 v4 : Value) (wr : World) : Prop :=
  ∃ (i : Nat) (oa : Option Addr) (oc : Nat), i ≤ n ∧ v4 = .int .i64 (i : Int) ∧ v3 = .slice oa i oc ∧ wr.ownsRow w.heap.size 35 4 (.slice oa i oc) i (cellsF (wrdL tx i)) ∧ Below w.heap.size w wr
section
variable (w : World)
set_option maxRecDepth 100000 in
set_option maxHeartbeats 4000000 in
theorem simple_any (n : Nat) (hn : n ≤ 1000) :
    Calls Tryd.prog 28 #[.int .i64 (n : Int)] w fun e w' => ∃ oa oc, e = .returned (.slice oa (n + 5) oc) ∧ NRow w' oa (n + 5) (nl (smpL n n)) ∧ Below w.heap.size w w' := by
  go_enter Tryd.func28, Tryd.ntmps28
  go_wp2
  go_loopw [3, 4] (fun v3 v4 wr => SmR w n v3 v4 wr) (fun _ v4 _ => n - (intOf v4).toNat)
  case atStart =>
    refine ⟨0, _, _, by omega, rfl, rfl, ?_, (Below.refl _ w).alloc (Nat.le_refl _) _⟩
    exact ⟨rfl, .inr ⟨w.heap.size, 5, _, rfl, Nat.le_refl _, Blk.new w _ _, Nat.le_refl _, by unfold maxLen; omega, rfl, rfl⟩⟩
  case round =>
    obtain ⟨i, oa, oc, hi, rfl, rfl, hO, hB⟩ := hrel
    by_cases hlt : i < n
    · have hp : (i : Int) < (n : Int) := by omega
      have e1 : IntKind.i64.wrap ((i : Int) + 1) = (i : Int) + 1 := IntWalk.i64_in _ (by omega)
      have HO := Lib.hid hO
      have HB := Lib.hid hB
      have HBS := Lib.hid hB.size
      clear hO hB
      go_wp2_with (at_builtin; go_must (refine wpl_app_gen rfl _ _ 22 27 4 32 _ rfl Tryd.underlying22 infoN rfl (by omega) (by omega) w.heap.size (.slice oa (i + 5) oc) (i + 5) (cellsN (smpL n i)) rfl (own_allocI HO.out _) _ 1 [.int .i64 7, .int .i64 (i : Int), .int .i64 ((i : Int) + 1), .int .i64 4] rfl (src_four _ _ _ _ _ _) rfl (by simp [Value.oneCell']) (by omega) (by rw [World.size_alloc]; have := HBS.out; omega) (i + 1 + 5) (by omega) ?_); rintro oa3 c3 W6 how hgr hob)
      have hFx := (Frm.of_below (p := fun b => (Value.slice oa (i + 5) oc).ownBlock = some b) ((Below.refl _ wr).alloc (Nat.le_refl _) (.cells #[.int .i64 7, .int .i64 (i : Int), .int .i64 ((i : Int) + 1), .int .i64 4] 27))).grown hgr (fun b hb => .inl hb)
      refine ⟨⟨i + 1, oa3, c3, by omega, by rw [show ((i + 1 : Nat) : Int) = (i : Int) + 1 from by omega], rfl, by rw [smpL_next, cellsN_append]; exact how, HB.out.trans (hFx.below HB.out.size (fun b hb => own_ge HO.out b hb))⟩, by simp [intOf]; omega⟩
    · obtain rfl : i = n := by omega
      have HO := Lib.hid hO
      have HB := Lib.hid hB
      clear hO hB
      have hp : ¬ (i : Int) < (i : Int) := by omega
      go_wp2
      go_ret
      exact ⟨oa, ⟨oc, rfl⟩, (owns_nrow HO.out).2, HB.out⟩
set_option maxRecDepth 100000 in
set_option maxHeartbeats 4000000 in
theorem words_any (ao : Option Addr) (n cap : Nat) (tx : Nat → ByteArray) (hr : SRow w ao n tx) (hn : n ≤ 1000) :
    Calls Tryd.prog 25 #[.slice ao n cap] w fun e w' => ∃ oa oc, e = .returned (.slice oa n oc) ∧ LfRow w' oa n (lfl (wrdL tx n)) ∧ Below w.heap.size w w' := by
  have HR := Lib.hid hr
  clear hr
  go_enter Tryd.func25, Tryd.ntmps25
  go_wp2
  go_loopw [3, 4] (fun v3 v4 wr => WdR w n tx v3 v4 wr) (fun _ v4 _ => n - (intOf v4).toNat)
  case atStart => exact ⟨0, _, _, by omega, rfl, rfl, World.ownsRow_nil _ _ _ _, Below.refl _ _⟩
  case round =>
    obtain ⟨i, oa, oc, hi, rfl, rfl, hO, hB⟩ := hrel
    by_cases hlt : i < n
    · have hp : (i : Int) < (n : Int) := by omega
      have q0 : (0 : Int) ≤ (i : Int) := by omega
      have e1 : IntKind.i64.wrap ((i : Int) + 1) = (i : Int) + 1 := IntWalk.i64_in _ (by omega)
      obtain ⟨b, off, rfl, hbl, hc⟩ := (HR.out.below hB) i hlt
      have HO := Lib.hid hO
      have HB := Lib.hid hB
      have HBS := Lib.hid hB.size
      clear hO hB
      go_wp2_with (at_builtin; go_must (refine wpl_app_gen rfl _ _ 40 35 4 40 _ rfl Tryd.underlying40 infoLf rfl (by omega) (by omega) w.heap.size (.slice oa i oc) i (cellsF (wrdL tx i)) rfl (own_allocI HO.out _) _ 1 [.int .i64 6, .string (tx i), .int .i64 0, .int .i64 0] rfl (src_four _ _ _ _ _ _) rfl (by simp [Value.oneCell']) (by omega) (by rw [World.size_alloc]; have := HBS.out; omega) (i + 1) rfl ?_); rintro oa3 c3 W6 how hgr hob)
      have hFx := (Frm.of_below (p := fun b => (Value.slice oa i oc).ownBlock = some b) ((Below.refl _ wr).alloc (Nat.le_refl _) (.cells #[.int .i64 6, .string (tx i), .int .i64 0, .int .i64 0] 35))).grown hgr (fun b hb => .inl hb)
      refine ⟨⟨i + 1, oa3, c3, by omega, by rw [show ((i + 1 : Nat) : Int) = (i : Int) + 1 from by omega], rfl, by rw [wrdL_next, cellsF_append]; exact how, HB.out.trans (hFx.below HB.out.size (fun b hb => own_ge HO.out b hb))⟩, by simp [intOf]; omega⟩
    · obtain rfl : i = n := by omega
      have HO := Lib.hid hO
      have HB := Lib.hid hB
      clear hO hB
      have hp : ¬ (i : Int) < (i : Int) := by omega
      go_wp2
      go_ret
      exact ⟨oa, ⟨oc, rfl⟩, (owns_lfrow HO.out).2, HB.out⟩
end
end Go.Proofs.YtmjckjbdkffkoaaDoor

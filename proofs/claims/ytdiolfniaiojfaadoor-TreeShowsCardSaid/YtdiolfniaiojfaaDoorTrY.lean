/- What the library's Backward at ints yields, and the iterators that upward and it answer. Condition: rows of at most a million. -/
import Derived.Test.YtdiolfniaiojfaaDoorTrSa
namespace Go.Proofs.YtdiolfniaiojfaaDoor
open Go.RowKit Go.Shelf
set_option linter.unusedVariables false
attribute [local go_sem] Oper.semAt_some

theorem RdO.kept {w w' : World} {oa : Option Addr} {n : Nat} {L : List Nat} (h : RdO w oa n L) (hs : w.heap.size ≤ w'.heap.size) (hc : ∀ b off, oa = some ⟨b, off, none⟩ → b < w.heap.size → w'.heap[b]? = w.heap[b]?) : RdO w' oa n L :=
  ⟨h.len, fun i p hp => by
    obtain ⟨ob, h1, h2, h3⟩ := h.cells i p hp
    exact ⟨ob, h1, Nat.lt_of_lt_of_le h2 hs, (World.cell?_of_block (hc ob 0 h1 h2)).trans h3⟩⟩
/-- What a list says of the places behind its end is of no weight. -/
def ol (L : List Nat) (i : Nat) : Nat := L[i]?.getD 0
theorem ol_at {L : List Nat} {i x : Nat} (h : L[i]? = some x) : ol L i = x := by unfold ol; rw [h]; rfl
set_option maxRecDepth 100000 in
set_option maxHeartbeats 2000000 in
theorem backI_seq (m : Nat) (hm : 1 ≤ m) (Bx : Nat) (ao : Option Addr) (n c : Nat) (lv : List Nat) (hn : n ≤ 1000000) (W : World) (hb : Blk W Bx #[.slice ao n c] 51) (hrow : RdO W ao n lv) :
    SeqT m Tryd.prog 26 #[.pointer (some ⟨Bx, 0, none⟩)] (fun x : Nat => #[.int .i64 (x : Int), .int .i64 (ol lv x : Int)]) (CapN Bx ao n) (rvR n) W := by
  intro l J Jx hJ hJx hY h0
  have hro : Fence.wide.round = none := rfl
  have hfn : Fence.wide.fn 26 := trivial
  have HROW := Lib.hid hrow
  have HB := Lib.hid hb
  have hcb := hb.cell 0
  simp at hcb
  have e0 : IntKind.i64.wrap ((n : Int) - 1) = (n : Int) - 1 := IntWalk.i64_in _ (by omega)
  clear hrow hb
  refine callsIn_of_wp Tryd.func26 rfl hfn ?_ hro
  simp only [Tryd.ntmps26, List.size_toArray, List.length_cons, List.length_nil, Nat.reduceAdd, Nat.reduceSub, Array.replicate_succ, Array.replicate_zero, List.push_toArray, List.append_toArray, List.nil_append, List.cons_append]
  gi_wp2
  clear hcb e0
  gi_loopw [3] (fun v3 wr => BnRl n Bx ao J W v3 wr) (fun v3 _ => (intOf v3 + 1).toNat)
  case atStart => exact ⟨0, Nat.zero_le _, by simp, h0, Nat.le_refl _, fun _ _ _ => rfl⟩
  case round =>
    obtain ⟨k, hk, rfl, hJs, hsz, hsame⟩ := hrel
    by_cases hlt : k < n
    · obtain ⟨x, hx⟩ : ∃ x : Nat, n - 1 - k = x := ⟨_, rfl⟩
      have ei : (n : Int) - 1 - (k : Int) = (x : Int) := by omega
      have hblk : Blk wr Bx #[.slice ao n c] 51 := (hsame Bx HB.out.lt (.inl rfl)).trans HB.out
      have hrow := HROW.out.kept hsz (fun b off h1 h2 => hsame b h2 (.inr ⟨by omega, off, h1⟩))
      have hcb := hblk.cell 0
      simp at hcb
      have hcut := rvR_cut hlt
      have hsn := rvR_snoc hlt
      rw [hx] at hcut hsn
      have hxl : x < lv.length := by have := hrow.len; omega
      obtain ⟨y, hy0⟩ : ∃ y, lv[x]? = some y := ⟨lv[x], List.getElem?_eq_getElem hxl⟩
      obtain ⟨b, rfl, hbw, c0⟩ := hrow.cells x y hy0
      obtain ⟨fn, tmps, assign, body, hy, hR⟩ := hY _ x _ _ wr hcut hJs (fun b h => h.elim)
      rw [ol_at hy0] at hy
      have q0 : (0 : Int) ≤ (x : Int) := by omega
      have q1 : (x : Int) < (n : Int) := by omega
      have e1 : IntKind.i64.wrap ((x : Int) - 1) = (x : Int) - 1 := IntWalk.i64_in _ (by omega)
      rw [ei]
      have HX := Lib.hid hx
      have HSN := Lib.hid hsn
      have HSM := Lib.hid hsame
      have HBX := Lib.hid hblk.lt
      clear hx ei hcut hsn hrow hsame hblk hy0 hxl
      gi_wp2
      refine hR.mono ?_
      rintro e W3 ⟨hk3, (⟨rfl, hJ3⟩ | ⟨rfl, hJx3⟩)⟩
      · have hs3 := hk3.size
        have HK3 := Lib.hid hk3
        clear hk3
        gi_wp2
        go_roundw
        case rel => exact ⟨k + 1, by omega, by have := HX.out; first | (congr 1; omega) | (simp; omega), by rw [HSN.out]; exact hJ3, by omega, fun b' h1 h2 => (HK3.out.same b' (by omega) (.inr h2)).trans (HSM.out b' h1 h2)⟩
        case measure => simp [intOf] <;> omega
      · gi_wp2
        refine bodyPost_ret (results_none rfl _ _ _) rfl ?_
        exact ⟨⟨_, rfl⟩, .inr ⟨_, _, hJx3⟩⟩
    · obtain rfl : k = n := by omega
      have hneg : ¬ (0 : Int) ≤ (k : Int) - 1 - (k : Int) := by omega
      have hall : (rvR k).take k = rvR k := List.take_of_length_le (by rw [rvR_len]; exact Nat.le_refl _)
      rw [hall] at hJs
      gi_wp2
      go_end0
      exact ⟨⟨_, rfl⟩, .inl ⟨_, hJs⟩⟩
theorem backI_any (w : World) (ao : Option Addr) (n c : Nat) :
    Calls Tryd.prog 20 #[.slice ao n c] w fun e w' => e = .returned (.func (.func 26) #[] #[.pointer (some ⟨w.heap.size, 0, none⟩)]) ∧ w' = w.alloc (.cells #[.slice ao n c] 51) := by
  go_enter Tryd.func20, Tryd.ntmps20
  go_wp2
  go_ret
  exact ⟨rfl, rfl⟩
theorem upward_any (w : World) (ao : Option Addr) (n c : Nat) :
    Calls Tryd.prog 11 #[.slice ao n c] w fun e w' => e = .returned (.func (.func 19) #[] #[.pointer (some ⟨w.heap.size, 0, none⟩)]) ∧ w' = w.alloc (.cells #[.slice ao n c] 22) := by
  go_enter Tryd.func11, Tryd.ntmps11
  go_wp2
  go_ret
  exact ⟨rfl, rfl⟩
end Go.Proofs.YtdiolfniaiojfaaDoor

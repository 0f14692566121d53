/- What at, mode and Expands of the document's own parts return. Condition: stacks of at most a hundred thousand frames. -/
import Derived.Test.YtgfkbfojeohlkaaGreatDoorMdI
import Derived.Test.YtgfkbfojeohlkaaGreatDoorQa
import Derived.Deep.RegionWith
import Derived.Test.YtgfkbfojeohlkaaGreatDoorPtB
namespace Go.Proofs.YtgfkbfojeohlkaaGreatDoor
open Go.RowKit
set_option linter.unusedVariables false

def AtR (l : List Fr) (f r : Nat) : Prop :=
  (∃ m, 1 ≤ r ∧ l[r]? = some (m, f) ∧ ∀ i x, 1 ≤ i → i < r → l[i]? = some x → x.2 ≠ f) ∨ (r = 0 ∧ ∀ i x, 1 ≤ i → l[i]? = some x → x.2 ≠ f)
def atI (s : ByteArray) (k f : Nat) : Nat := if pres s k f = true then (blw s f).length + 1 else 0
theorem atI_pos {s : ByteArray} {k f : Nat} : atI s k f = 0 ↔ pres s k f = false := by
  unfold atI
  split <;> simp [*]
theorem st_rev (s : ByteArray) (k : Nat) : (runK s k).st.reverse = (0, 0) :: (nt s k).reverse := by rw [nt_st, List.reverse_append]; rfl
theorem st_at {s : ByteArray} {k f : Nat} (h : pres s k f = true) : (runK s k).st.reverse[(blw s f).length + 1]? = some (md s k f, f) := by
  obtain ⟨⟨A, hA⟩, _⟩ := pres_all h
  rw [st_rev, hA]
  simp
theorem atI_at (s : ByteArray) (k f : Nat) : AtR (runK s k).st.reverse f (atI s k f) := by
  unfold atI
  have hrev := st_rev s k
  split
  · rename_i h
    obtain ⟨⟨A, hA⟩, _⟩ := pres_all h
    refine .inl ⟨_, by omega, st_at h, fun i x h1 h2 hx => ?_⟩
    rw [hrev, hA] at hx
    obtain ⟨c, rfl⟩ : ∃ c, i = c + 1 := ⟨i - 1, by omega⟩
    have hc : c < (blw s f).reverse.length := by rw [List.length_reverse]; omega
    rw [List.getElem?_cons_succ, List.reverse_append, List.reverse_cons, List.append_assoc, List.getElem?_append_left hc] at hx
    have hm : x ∈ blw s f := by have := List.mem_of_getElem? hx; simpa using this
    have hp := nt_pw s k
    rw [hA] at hp
    have := (List.pairwise_cons.1 (List.pairwise_append.1 hp).2.1).1 x hm
    simp at this
    omega
  · rename_i h
    refine .inr ⟨rfl, fun i x h1 hx => ?_⟩
    rw [hrev] at hx
    obtain ⟨c, rfl⟩ : ∃ c, i = c + 1 := ⟨i - 1, by omega⟩
    rw [List.getElem?_cons_succ] at hx
    have hm : x ∈ nt s k := by have := List.mem_of_getElem? hx; simpa using this
    intro e
    exact h (pres_iff.2 ⟨x.1, by rw [← e]; exact hm⟩)

def AtRel (l : List Fr) (f : Nat) (w : World) (v : Value) (wr : World) : Prop := ∃ k : Nat, 1 ≤ k ∧ (k ≤ l.length ∨ k = 1) ∧ v = .int .i64 (k : Int) ∧ (∀ i x, 1 ≤ i → i < k → l[i]? = some x → x.2 ≠ f) ∧ wr = w
section
variable (w : World)
set_option maxHeartbeats 2000000 in
theorem at_any (st : List Fr) (S : ByteArray) (g n cap : Nat) (fr : Bool) (f r : Nat) (hR : Rv w st S g n cap) (hl : st.length ≤ 100000) (hA : Hid (AtR st.reverse f r)) :
    Calls Tryz.prog 129 #[.agg #[.string S, .slice (some ⟨g, 0, none⟩) n cap, .bool fr], .int .i64 (f : Int)] w fun e w' => e = .returned (.int .i64 (r : Int)) ∧ Below w.heap.size w w' := by
  have hlt := hR.lt
  have hcell : ∀ X, Below w.heap.size w X → ∀ j x, st.reverse[j]? = some x → X.cell? ⟨g, j, none⟩ = some (.int .i64 (x.2 : Int)) := fun X hX j x hx => (hR.below hX).p.cell hx
  have hn := hR.n
  have hnl : n ≤ 100000 := by omega
  have hrl : st.reverse.length = n := by rw [List.length_reverse, hn]
  have HC := Lib.hid hcell
  have HRL := Lib.hid hrl
  clear hR hcell hn hrl
  go_enter Tryz.func129, Tryz.ntmps129
  go_wp2
  obtain ⟨W, hW⟩ : ∃ W, W = w.alloc (.cells #[.string S, .slice (some ⟨g, 0, none⟩) n cap, .bool fr] 117) := ⟨_, rfl⟩
  have hB : Below w.heap.size w W := by rw [hW]; exact (Below.refl _ _).alloc (Nat.le_refl _) _
  have hb : Blk W w.heap.size #[.string S, .slice (some ⟨g, 0, none⟩) n cap, .bool fr] 117 := by rw [hW]; exact Blk.new _ _ _
  have b1 : W.cell? ⟨w.heap.size, 1, none⟩ = some (.slice (some ⟨g, 0, none⟩) n cap) := hb.cell 1
  rw [← hW]
  clear hW hb
  obtain ⟨bx, hbx⟩ : ∃ bx, w.heap.size = bx := ⟨_, rfl⟩
  rw [hbx] at b1 ⊢
  have HBX := Lib.hid hbx
  clear hbx
  go_loopw [5] (fun v wr => AtRel st.reverse f W v wr) (fun v _ => n + 1 - (intOf v).toNat)
  case atStart => exact ⟨1, Nat.le_refl _, .inr rfl, rfl, fun i x h1 h2 => by omega, rfl⟩
  case round =>
    obtain ⟨k, hk1, hk, rfl, hno, rfl⟩ := hrel
    have HN := Lib.hid hno
    clear hno
    by_cases hlt2 : (k : Int) < (n : Int)
    · have hkn : k < n := by omega
      have hkr : k < st.reverse.length := by have := HRL.out; omega
      obtain ⟨x, hx⟩ : ∃ x, st.reverse[k]? = some x := ⟨_, List.getElem?_eq_getElem hkr⟩
      have q := HC.out _ hB k x hx
      have q0 : (0 : Int) ≤ (k : Int) := by omega
      obtain ⟨p, hp⟩ : ∃ p, x.2 = p := ⟨_, rfl⟩
      rw [hp] at q
      have HX := Lib.hid hx
      have HP := Lib.hid hp
      clear hx hp hkr
      by_cases e : p = f
      · subst e
        go_wp2
        go_ret
        refine ⟨ret_int ?_, by rw [HBX.out]; rw [HBX.out] at hB; exact hB⟩
        have : k = r := by
          rcases hA.out with ⟨m, h1, h2, h3⟩ | ⟨h1, h2⟩
          · rcases Nat.lt_trichotomy k r with g | g | g
            · exact absurd HP.out (h3 k x hk1 g HX.out)
            · exact g
            · exact absurd rfl (HN.out r _ h1 g h2)
          · exact absurd HP.out (h2 k x hk1 HX.out)
        rw [this]
      · have t1 : ((p : Int) == (f : Int)) = false := beq_eq_false_iff_ne.2 (by omega)
        have HE := Lib.hid e
        clear e
        go_wp2
        go_roundw
        case rel =>
          refine ⟨k + 1, by omega, .inl (by have := HRL.out; omega), by go_num, fun i y h1 h2 hy => ?_, rfl⟩
          by_cases g : i = k
          · subst g
            have := HX.out.symm.trans hy
            simp at this
            subst this
            rw [HP.out]
            exact HE.out
          · exact HN.out i y h1 (by omega) hy
        case measure => simp [intOf]; omega
    · go_wp2
      go_ret
      refine ⟨ret_int ?_, by rw [HBX.out]; rw [HBX.out] at hB; exact hB⟩
      have : r = 0 := by
        rcases hA.out with ⟨m, h1, h2, h3⟩ | ⟨h1, h2⟩
        · have hl := (List.getElem?_eq_some_iff.1 h2).1
          have := HRL.out
          exact absurd rfl (HN.out r _ h1 (by omega) h2)
        · exact h1
      rw [this]
      rfl

theorem letters_inj : ∀ i, i < 15 → ∀ j, j < 15 → ltB i = ltB j → i = j := by decide +kernel
theorem letters_79 : ∀ i, i < 15 → ((ltB i).toNat = 79 ↔ i = 3) := by decide +kernel
theorem letters_69 : ∀ i, i < 15 → ((ltB i).toNat = 69 ↔ i = 11) := by decide +kernel
def MoRel (m : Nat) (w : World) (v : Value) (wr : World) : Prop := ∃ k : Nat, k ≤ m ∧ v = .int .i64 (k : Int) ∧ wr = w
set_option maxHeartbeats 2000000 in
theorem mode_ref_any (m c : Nat) (hm : m ≤ 14) (hc : Hid (c = (ltB m).toNat)) : Calls Tryz.prog 130 #[.int .u8 (c : Int)] w fun e w' => e = .returned (.int .i64 (cnt m : Nat)) ∧ w' = w := by
  have h79 := letters_79 m (by omega)
  have h69 := letters_69 m (by omega)
  rw [← hc.out] at h79 h69
  by_cases h3 : m = 3
  · have e : c = 79 := h79.2 h3
    subst e
    subst h3
    clear h79 h69
    go_enter Tryz.func130, Tryz.ntmps130
    go_wp2
    go_ret
    exact ⟨rfl, rfl⟩
  by_cases h11 : m = 11
  · have e : c = 69 := h69.2 h11
    subst e
    subst h11
    clear h79 h69
    go_enter Tryz.func130, Tryz.ntmps130
    go_wp2
    go_ret
    exact ⟨rfl, rfl⟩
  have t3 : ((c : Int) == 79) = false := beq_eq_false_iff_ne.2 (fun h => h3 (h79.1 (by omega)))
  have t11 : ((c : Int) == 69) = false := beq_eq_false_iff_ne.2 (fun h => h11 (h69.1 (by omega)))
  have hcn : cnt m = m := by unfold cnt; rw [if_neg h3, if_neg h11]
  rw [hcn]
  clear h79 h69 hcn
  go_enter Tryz.func130, Tryz.ntmps130
  go_wp2
  go_loopw [3] (fun v wr => MoRel m w v wr) (fun v _ => 15 - (intOf v).toNat)
  case atStart => exact ⟨0, Nat.zero_le _, rfl, rfl⟩
  case round =>
    obtain ⟨k, hk, rfl, rfl⟩ := hrel
    have hlt : (k : Int) < 15 := by omega
    have hk15 : k < lettersB.size := by show k < 15; omega
    have q0 : (0 : Int) ≤ (k : Int) := by omega
    have hel : (lettersB[k].toNat : Int) = ((ltB k).toNat : Int) := by unfold ltB; rw [bt_eq hk15]
    by_cases e : k = m
    · subst e
      have t1 : ((lettersB[k].toNat : Int) == (c : Int)) = true := by rw [hel, hc.out]; simp
      unfold lettersB at t1 hk15
      go_wp2
      go_ret
      exact ⟨rfl, rfl⟩
    · have t1 : ((lettersB[k].toNat : Int) == (c : Int)) = false := by
        rw [hel, hc.out, beq_eq_false_iff_ne]
        intro h
        exact e (letters_inj k (by omega) m (by omega) (UInt8.toNat_inj.1 (by omega)))
      unfold lettersB at t1 hk15
      go_wp2
      go_roundw
      case rel => exact ⟨k + 1, by omega, by go_num, rfl⟩
      case measure => simp [intOf]; omega
end
end Go.Proofs.YtgfkbfojeohlkaaGreatDoor

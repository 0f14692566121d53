/- What Run of the document's own machine returns. Condition: texts of at most 80,000 bytes.
What End of the document's own machine returns. Condition: texts of at most 80,000 bytes. -/
import Derived.Test.YtdjcidackkogjaaGreatDoorMdB
import Derived.Deep.RegionWith
import Derived.Test.YtdjcidackkogjaaGreatDoorQs
import Derived.Deep.CutRange
import Derived.Deep.DeepCutAuto
import Derived.Test.YtdjcidackkogjaaGreatDoorMdW
import Derived.Test.YtdjcidackkogjaaGreatDoorQa
import Derived.Test.YtdjcidackkogjaaGreatDoorQf
namespace Go.Proofs.YtdjcidackkogjaaGreatDoor
open Go.RowKit
set_option linter.unusedVariables false

structure Bx (w0 w : World) (B : Nat) (x : Ms) (S : ByteArray) (g n cap : Nat) : Prop where
  box : Blk w B #[.string S, .slice (some ⟨g, 0, none⟩) n cap, .bool x.fresh] 126
  rv : Rv w x.st S g n cap
  ne : g ≠ B
  ge : w0.heap.size ≤ g
  geB : w0.heap.size ≤ B
  below : Below w0.heap.size w0 w
theorem Bx.step {w0 w w' : World} {B : Nat} {x y : Ms} {S : ByteArray} {g n cap : Nat} (h : Bx w0 w B x S g n cap) {S2 : ByteArray} {g2 n2 cap2 : Nat} (hR : Rv w' y.st S2 g2 n2 cap2) (hb : Below w.heap.size w w') (hg : g2 = g ∨ w.heap.size ≤ g2) :
    Bx w0 (((w'.setCell ⟨B, 0, none⟩ (.string S2)).setCell ⟨B, 1, none⟩ (.slice (some ⟨g2, 0, none⟩) n2 cap2)).setCell ⟨B, 2, none⟩ (.bool y.fresh)) B y S2 g2 n2 cap2 := by
  have hlt := h.box.lt
  have hgl := h.rv.lt
  have hs := hb.size
  have h1 := h.ge
  have h2 := h.below.size
  have hne : g2 ≠ B := by
    rcases hg with rfl | hg
    · exact h.ne
    · omega
  have hge : w0.heap.size ≤ g2 := by omega
  refine ⟨?_, hR.frm (((Frm.put (Frm.refl _ w') 0 _).put 1 _).put 2 _) hne, hne, hge, h.geB, ?_⟩
  · have := (((h.box.below hb).set 0 (.string S2)).set 1 (.slice (some ⟨g2, 0, none⟩) n2 cap2)).set 2 (.bool y.fresh)
    simpa using this
  · have hb0 : Below w0.heap.size w0 w' := h.below.trans (hb.mono h2)
    exact ((hb0.setCell (p := ⟨B, 0, none⟩) h.geB _).setCell (p := ⟨B, 1, none⟩) h.geB _).setCell (p := ⟨B, 2, none⟩) h.geB _
theorem Bx.drew {w0 w : World} {B : Nat} {x : Ms} {S : ByteArray} {g n cap : Nat} (h : Bx w0 w B x S g n cap) : Bx w0 w.drew B x S g n cap :=
  ⟨h.box.drew, h.rv.frm ((Frm.refl (fun _ => False) w).drew) (fun h => h), h.ne, h.ge, h.geB, h.below.drew⟩

end Go.Proofs.YtdjcidackkogjaaGreatDoor
namespace Go.Proofs.YtdjcidackkogjaaGreatDoor
open Go.RowKit
set_option linter.unusedVariables false

def Alike (x y : Ms) : Prop := x.st.map (·.1) = y.st.map (·.1) ∧ x.fresh = y.fresh
theorem alike_top {st st2 : List Fr} (h : st.map (·.1) = st2.map (·.1)) : top st = top st2 := by
  cases st with
  | nil => cases st2 with
    | nil => rfl
    | cons b s => simp at h
  | cons a r => cases st2 with
    | nil => simp at h
    | cons b s => simp at h; exact h.1
theorem alike_run (v : Mv) {st st2 : List Fr} (h : st.map (·.1) = st2.map (·.1)) (p q : Nat) : (v.run st p).map (·.1) = (v.run st2 q).map (·.1) := by
  cases v with
  | keep => exact h
  | push m => simp [Mv.run, h]
  | pop =>
    show st.tail.map (·.1) = st2.tail.map (·.1)
    rw [List.map_tail, List.map_tail, h]
  | turn m =>
    cases st with
    | nil => cases st2 with
      | nil => rfl
      | cons b s => simp at h
    | cons a r => cases st2 with
      | nil => simp at h
      | cons b s => simp [Mv.run] at h ⊢; exact h.2
theorem alike_plain {st st2 : List Fr} (h : st.map (·.1) = st2.map (·.1)) (fr : Bool) (b p q : Nat) : Alike (plainF st fr b p) (plainF st2 fr b q) := by
  cases st with
  | nil => cases st2 with
    | nil => exact ⟨rfl, rfl⟩
    | cons b s => simp at h
  | cons a r => cases st2 with
    | nil => simp at h
    | cons c s =>
      obtain ⟨m, f⟩ := a
      obtain ⟨m2, f2⟩ := c
      have e : m = m2 := by simp at h; exact h.1
      subst e
      exact ⟨alike_run _ h _ _, rfl⟩
theorem alike_feed {x y : Ms} (h : Alike x y) (b p q : Nat) : Alike (feed x b p) (feed y b q) := by
  obtain ⟨st, fr⟩ := x
  obtain ⟨st2, fr2⟩ := y
  obtain ⟨h1, h2⟩ := h
  simp only at h1 h2
  subst h2
  cases st with
  | nil => cases st2 with
    | nil => exact ⟨rfl, rfl⟩
    | cons b s => simp at h1
  | cons a r => cases st2 with
    | nil => simp at h1
    | cons c s =>
      obtain ⟨m, f⟩ := a
      obtain ⟨m2, f2⟩ := c
      have e : m = m2 := by simp at h1; exact h1.1
      have hr : r.map (·.1) = s.map (·.1) := by simp at h1; exact h1.2
      subst e
      have tp : ∀ n, ((n, f) :: r).map (·.1) = ((n, f2) :: s).map (·.1) := fun n => by simp [hr]
      unfold feed
      simp only
      rw [alike_top hr]
      by_cases h12 : m = 12
      · rw [if_pos h12, if_pos h12]
        by_cases h40 : b = 40
        · rw [if_pos h40, if_pos h40]; exact ⟨tp 3, rfl⟩
        rw [if_neg h40, if_neg h40]
        by_cases h123 : b = 123
        · rw [if_pos h123, if_pos h123]; exact ⟨tp _, rfl⟩
        rw [if_neg h123, if_neg h123]
        by_cases h36 : b = 36
        · rw [if_pos h36, if_pos h36]; exact ⟨hr, rfl⟩
        rw [if_neg h36, if_neg h36]
        exact alike_plain hr _ _ _ _
      rw [if_neg h12, if_neg h12]
      by_cases h3 : m = 3
      · rw [if_pos h3, if_pos h3]
        by_cases h40 : b = 40
        · rw [if_pos h40, if_pos h40]; exact ⟨tp 9, rfl⟩
        rw [if_neg h40, if_neg h40]
        exact alike_plain (tp 1) _ _ _ _
      rw [if_neg h3, if_neg h3]
      by_cases h11 : m = 11
      · rw [if_pos h11, if_pos h11]
        by_cases h41 : b = 41
        · rw [if_pos h41, if_pos h41]; exact ⟨hr, rfl⟩
        rw [if_neg h41, if_neg h41]
        exact alike_plain (tp 9) _ _ _ _
      rw [if_neg h11, if_neg h11]
      exact alike_plain (tp m) _ _ _ _
theorem alike_runG {x y : Ms} (h : Alike x y) (β : Nat → Nat) (p q : Nat) : ∀ k, Alike (runG x β p k) (runG y β q k)
  | 0 => h
  | k + 1 => alike_feed (alike_runG h β p q k) _ _ _
theorem alike_stops {x y : Ms} (h : Alike x y) (b : Nat) : stops x b = stops y b := by
  have hl : x.st.length = y.st.length := by have := congrArg List.length h.1; simpa using this
  unfold stops
  rw [hl, alike_top h.1]
theorem IsEnd.one {s : ByteArray} {a p q n m : Nat} (h : IsEnd s a p n) (k : IsEnd s a q m) : n = m := by
  have hs : ∀ i, stops (fromK s a p i) = stops (fromK s a q i) := fun i => funext fun b => alike_stops (alike_runG ⟨rfl, rfl⟩ _ p q i) b
  obtain ⟨h1, h2, h3, h4⟩ := h
  obtain ⟨k1, k2, k3, k4⟩ := k
  rcases Nat.lt_trichotomy n m with g | g | g
  · have := k3 n h1 g
    rw [← hs, h4 (by omega)] at this
    cases this
  · exact g
  · have := h3 m k1 g
    rw [hs, k4 (by omega)] at this
    cases this

end Go.Proofs.YtdjcidackkogjaaGreatDoor

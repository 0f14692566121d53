/- The plain facts on where the newlines of a text stand behind an edit: those ahead of it, those of what comes, those behind it, moved. No condition: nothing here speaks of the program. -/
import Derived.Test.YtiiebholgmhogaaLnP
namespace Go.Proofs.Ytiiebholgmhogaa
open Go.RowKit
set_option linter.unusedVariables false

theorem bt_app1 {x y : ByteArray} {i : Nat} (h : i < x.size) : bt (x ++ y) i = bt x i := by
  rw [bt_eq (by simp; omega), bt_eq h]
  exact ByteArray.getElem_append_left h
theorem bt_app2 {x y : ByteArray} {i : Nat} (h : i < y.size) : bt (x ++ y) (x.size + i) = bt y i := by
  rw [bt_eq (by simp; omega), bt_eq h, ByteArray.getElem_append_right (by omega)]
  congr 1
  omega
theorem br_congr {s t : ByteArray} {k : Nat} (h : ∀ i, i < k → bt s i = bt t i) : br s k = br t k := by
  induction k with
  | zero => rfl
  | succ k ih =>
    have e := h k (by omega)
    have ih' := ih (fun i hi => h i (by omega))
    by_cases c : bt s k = 10
    · rw [br_s1 s c, br_s1 t (by rw [← e]; exact c), ih']
    · rw [br_s0 s c, br_s0 t (by rw [← e]; exact c), ih']
theorem br_app (x y : ByteArray) (k : Nat) (hk : k ≤ y.size) : br (x ++ y) (x.size + k) = br x x.size ++ (br y k).map (x.size + ·) := by
  induction k with
  | zero => simp [br]; exact br_congr fun i hi => bt_app1 hi
  | succ k ih =>
    have ih' := ih (by omega)
    have e : bt (x ++ y) (x.size + k) = bt y k := bt_app2 (by omega)
    rw [← Nat.add_assoc]
    by_cases c : bt y k = 10
    · rw [br_s1 _ (by rw [e]; exact c), br_s1 _ c, ih']
      simp
    · rw [br_s0 _ (by rw [e]; exact c), br_s0 _ c, ih']
theorem br_two (x y : ByteArray) : br (x ++ y) (x ++ y).size = br x x.size ++ (br y y.size).map (x.size + ·) := by
  have := br_app x y y.size (Nat.le_refl _)
  rwa [← ByteArray.size_append] at this
theorem br_three (x y z : ByteArray) : br (x ++ y ++ z) (x ++ y ++ z).size = br x x.size ++ (br y y.size).map (x.size + ·) ++ (br z z.size).map (x.size + y.size + ·) := by
  rw [br_two, br_two]
  simp
theorem bt_extract {s : ByteArray} {a b i : Nat} (h : a + i < b) (hb : b ≤ s.size) : bt (s.extract a b) i = bt s (a + i) := by
  rw [bt_eq (by simp; omega), bt_eq (by omega)]
  simp [ByteArray.getElem_extract]
/-- Where the newlines stand behind an edit that goes. -/
theorem br_edit {s d n : ByteArray} {a : Nat} (hf : fits s a d) :
    ct s (a + d.size) = ct s a + ct d d.size ∧
    br (doB s a d n) (doB s a d n).size = (br s s.size).take (ct s a) ++ (br n n.size).map (a + ·) ++ ((br s s.size).drop (ct s (a + d.size))).map (fun x => x + n.size - d.size) ∧
    ∀ x ∈ (br s s.size).drop (ct s (a + d.size)), a + d.size ≤ x := by
  obtain ⟨h1, h2⟩ := hf
  have z0 : (s.extract 0 a).size = a := by simp; omega
  have hs : s = s.extract 0 a ++ d ++ s.extract (a + d.size) s.size := by
    conv => rhs; arg 1; arg 2; rw [← h2]
    rw [extract_split s 0 a (a + d.size) (by omega) (by omega), extract_split s 0 (a + d.size) s.size (by omega) (by omega)]
    simp
  have b3 : br s s.size = br (s.extract 0 a) a ++ (br d d.size).map (a + ·) ++ (br (s.extract (a + d.size) s.size) (s.extract (a + d.size) s.size).size).map (a + d.size + ·) := by
    have := br_three (s.extract 0 a) d (s.extract (a + d.size) s.size)
    rw [← hs, z0] at this
    exact this
  have ba : br s a = br (s.extract 0 a) a := by
    refine br_congr fun i hi => ?_
    rw [bt_extract (by omega) (by omega), Nat.zero_add]
  have bad : br s (a + d.size) = br (s.extract 0 a) a ++ (br d d.size).map (a + ·) := by
    have h3 := br_two (s.extract 0 a) d
    have h4 : (s.extract 0 a ++ d).size = a + d.size := by simp; omega
    rw [h4, z0] at h3
    rw [← h3]
    refine br_congr fun i hi => ?_
    have : bt s i = bt (s.extract 0 a ++ d ++ s.extract (a + d.size) s.size) i := by rw [← hs]
    rw [this]
    exact bt_app1 (by omega)
  have c1 : ct s a = (br (s.extract 0 a) a).length := by rw [← br_length, ba]
  have c2 : ct s (a + d.size) = (br (s.extract 0 a) a).length + ct d d.size := by rw [← br_length, bad, List.length_append, List.length_map, br_length d]
  have hdrop : (br s s.size).drop (ct s (a + d.size)) = (br (s.extract (a + d.size) s.size) (s.extract (a + d.size) s.size).size).map (a + d.size + ·) := by
    rw [b3, c2, List.drop_left' (by rw [List.length_append, List.length_map, br_length d])]
  refine ⟨by rw [c2, c1], ?_, fun x hx => ?_⟩
  · have h5 := br_three (s.extract 0 a) n (s.extract (a + d.size) s.size)
    rw [z0] at h5
    have h6 : doB s a d n = s.extract 0 a ++ n ++ s.extract (a + d.size) s.size := rfl
    have e1 : br (s.extract 0 a) a = (br s s.size).take (ct s a) := by rw [b3, c1, List.append_assoc, List.take_left' rfl]
    obtain ⟨Q, hQ⟩ : ∃ Q, br (s.extract (a + d.size) s.size) (s.extract (a + d.size) s.size).size = Q := ⟨_, rfl⟩
    rw [hQ] at h5 hdrop
    have e2 : Q.map (a + n.size + ·) = ((br s s.size).drop (ct s (a + d.size))).map (fun x => x + n.size - d.size) := by
      rw [hdrop, List.map_map]
      apply List.map_congr_left
      intro x _
      show a + n.size + x = (a + d.size + x) + n.size - d.size
      omega
    rw [h6, h5, e1, e2]
  · rw [hdrop] at hx
    obtain ⟨y, _, rfl⟩ := List.mem_map.1 hx
    show a + d.size ≤ a + d.size + y
    omega
/-- The bytes that are newlines, counted. -/
theorem count_ct (d : ByteArray) (k : Nat) (hk : k ≤ d.size) : (d.data.toList.take k).count 10 = ct d k := by
  induction k with
  | zero => simp [ct]
  | succ k ih =>
    have hl : k < d.data.toList.length := by simp; omega
    have e : d.data.toList[k] = bt d k := by rw [bt_eq (by omega)]; simp; rfl
    rw [List.take_add_one, List.getElem?_eq_getElem hl, List.count_append, ih (by omega), e]
    by_cases c : bt d k = 10
    · rw [ct_s1 d c, c]; simp
    · rw [ct_s0 d c]; simp [c]
theorem count_all (d : ByteArray) : d.data.toList.count 10 = ct d d.size := by
  have := count_ct d d.size (Nat.le_refl _)
  rwa [List.take_of_length_le (by simp)] at this
end Go.Proofs.Ytiiebholgmhogaa

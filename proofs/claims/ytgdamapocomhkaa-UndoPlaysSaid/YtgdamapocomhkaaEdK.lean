/- The plain fact behind Join: two edits that touch are one edit, that does what both do. No condition: nothing here speaks of the program. -/
import Derived.Test.YtgdamapocomhkaaEdR
namespace Go.Proofs.Ytgdamapocomhkaa
open Go.RowKit
set_option linter.unusedVariables false

theorem bt_ext {a b : ByteArray} (hs : a.size = b.size) (h : ∀ i, i < a.size → bt a i = bt b i) : a = b := by
  apply ByteArray.ext
  apply Array.ext
  · exact hs
  · intro i h1 h2
    rw [bt_getElem, bt_getElem]
    exact h i h1
theorem bt_append (a b : ByteArray) (i : Nat) (hi : i < a.size + b.size) : bt (a ++ b) i = if i < a.size then bt a i else bt b (i - a.size) := by
  have h0 : i < (a ++ b).size := by simp; omega
  rw [bt_eq h0]
  have e : (a ++ b).data = a.data ++ b.data := by simp
  have sa : a.size = a.data.size := rfl
  have sb : b.size = b.data.size := rfl
  by_cases h : i < a.size
  · rw [if_pos h, bt_eq h]
    show (a ++ b).data[i] = a.data[i]
    simp only [e]
    exact Array.getElem_append_left (by omega)
  · rw [if_neg h, bt_eq (by omega)]
    have h' : i - a.size < b.data.size := by omega
    show (a ++ b).data[i] = b.data[i - a.size]
    simp only [e]
    exact Array.getElem_append_right (by omega)
theorem size_ext (s : ByteArray) (x y : Nat) (h : x ≤ y) (hy : y ≤ s.size) : (s.extract x y).size = y - x := by
  simp; omega
theorem fits_bt {s d : ByteArray} {k : Nat} (h : fits s k d) (i : Nat) (hi : i < d.size) : bt s (k + i) = bt d i := by
  have := bt_extract s k (k + d.size) i (by omega) h.1
  rw [h.2] at this
  exact this.symm
theorem fits_of_bt {s d : ByteArray} {k : Nat} (h : k + d.size ≤ s.size) (hb : ∀ i, i < d.size → bt s (k + i) = bt d i) : fits s k d := by
  refine ⟨h, bt_ext (by rw [size_ext _ _ _ (by omega) h]; omega) fun i hi => ?_⟩
  rw [size_ext _ _ _ (by omega) h] at hi
  rw [bt_extract s k (k + d.size) i (by omega) h]
  exact hb i (by omega)
/-- The text behind an edit, byte by byte. -/
theorem bt_doB {s d n : ByteArray} {k : Nat} (h : k + d.size ≤ s.size) (i : Nat) (hi : i < s.size - d.size + n.size) :
    bt (doB s k d n) i = if i < k then bt s i else if i < k + n.size then bt n (i - k) else bt s (i + d.size - n.size) := by
  have z0 : (s.extract 0 k).size = k := by rw [size_ext _ _ _ (by omega) (by omega)]; omega
  have z2 : (s.extract (k + d.size) s.size).size = s.size - (k + d.size) := size_ext _ _ _ h (Nat.le_refl _)
  have z1 : (s.extract 0 k ++ n).size = k + n.size := by rw [ByteArray.size_append, z0]
  unfold doB
  rw [bt_append _ _ _ (by rw [z1, z2]; omega), z1]
  by_cases h1 : i < k
  · rw [if_pos (by omega), if_pos h1, bt_append _ _ _ (by rw [z0]; omega), z0, if_pos h1, bt_extract _ _ _ _ (by omega) (by omega)]
    simp
  · rw [if_neg h1]
    by_cases h2 : i < k + n.size
    · rw [if_pos h2, if_pos h2, bt_append _ _ _ (by rw [z0]; omega), z0, if_neg h1]
    · rw [if_neg h2, if_neg h2, bt_extract _ _ _ _ (by omega) (by omega)]
      congr 1
      omega

section
variable {s d n a b : ByteArray} {k i : Nat}
theorem bt_l (h : k + d.size ≤ s.size) (hi : i < k) : bt (doB s k d n) i = bt s i := by
  rw [bt_doB h i (by omega), if_pos hi]
theorem bt_m (h : k + d.size ≤ s.size) (hi : k ≤ i) (hj : i < k + n.size) : bt (doB s k d n) i = bt n (i - k) := by
  rw [bt_doB h i (by omega), if_neg (by omega), if_pos hj]
theorem bt_r (h : k + d.size ≤ s.size) (hj : k + n.size ≤ i) (hl : i < s.size - d.size + n.size) : bt (doB s k d n) i = bt s (i + d.size - n.size) := by
  rw [bt_doB h i hl, if_neg (by omega), if_neg (by omega)]
theorem bt_al (h : i < a.size) : bt (a ++ b) i = bt a i := by rw [bt_append _ _ _ (by omega), if_pos h]
theorem bt_ar (h : a.size ≤ i) (h2 : i < a.size + b.size) : bt (a ++ b) i = bt b (i - a.size) := by rw [bt_append _ _ _ h2, if_neg (by omega)]
end

section
variable {s ad an bd bn : ByteArray} {A B : Nat}
set_option maxHeartbeats 1000000 in
theorem joins_1 (f : Nat) (hf : B = A + f) (hfn : f ≤ an.size) (hi : f + bd.size ≤ an.size) (ha : fits s A ad) (hb : fits (doB s A ad an) B bd) :
    fits s A ad ∧ doB s A ad (an.extract 0 f ++ bn ++ an.extract (f + bd.size) an.size) = doB (doB s A ad an) B bd bn := by
  have sa := ha.1
  have st : (doB s A ad an).size = s.size - ad.size + an.size := doB_size sa
  have sb := hb.1
  have e1 : (an.extract 0 f).size = f := by rw [size_ext _ _ _ (by omega) (by omega)]; omega
  have e2 : (an.extract (f + bd.size) an.size).size = an.size - (f + bd.size) := size_ext _ _ _ hi (Nat.le_refl _)
  have e3 : (an.extract 0 f ++ bn).size = f + bn.size := by rw [ByteArray.size_append, e1]
  have e4 : (an.extract 0 f ++ bn ++ an.extract (f + bd.size) an.size).size = f + bn.size + (an.size - (f + bd.size)) := by rw [ByteArray.size_append, e3, e2]
  refine ⟨ha, bt_ext (by rw [doB_size sa, doB_size sb, st, e4]; omega) fun i hi2 => ?_⟩
  rw [doB_size sa, e4] at hi2
  by_cases c1 : i < A
  · rw [bt_l sa c1, bt_l sb (by omega), bt_l sa c1]
  · by_cases c2 : i < B
    · rw [bt_m sa (by omega) (by omega), bt_al (by omega), bt_al (by omega), bt_extract _ _ _ _ (by omega) (by omega), bt_l sb c2, bt_m sa (by omega) (by omega)]
      congr 1; omega
    · by_cases c3 : i < B + bn.size
      · rw [bt_m sa (by omega) (by omega), bt_al (by omega), bt_ar (by omega) (by omega), bt_m sb (by omega) c3]
        congr 1; omega
      · by_cases c4 : i < A + (f + bn.size + (an.size - (f + bd.size)))
        · rw [bt_m sa (by omega) (by omega), bt_ar (by omega) (by omega), bt_extract _ _ _ _ (by omega) (by omega), bt_r sb (by omega) (by omega), bt_m sa (by omega) (by omega)]
          congr 1; omega
        · rw [bt_r sa (by omega) (by omega), bt_r sb (by omega) (by omega), bt_r sa (by omega) (by omega)]
          congr 1; omega

theorem joins_2 (f : Nat) (hf : B = A + f) (hfn : f ≤ an.size) (hi : an.size < f + bd.size) (ha : fits s A ad) (hb : fits (doB s A ad an) B bd) :
    fits s A (ad ++ bd.extract (an.size - f) bd.size) ∧ doB s A (ad ++ bd.extract (an.size - f) bd.size) (an.extract 0 f ++ bn) = doB (doB s A ad an) B bd bn := by
  have sa := ha.1
  have st : (doB s A ad an).size = s.size - ad.size + an.size := doB_size sa
  have sb := hb.1
  have e1 : (an.extract 0 f).size = f := by rw [size_ext _ _ _ (by omega) (by omega)]; omega
  have e2 : (bd.extract (an.size - f) bd.size).size = bd.size - (an.size - f) := size_ext _ _ _ (by omega) (Nat.le_refl _)
  have e3 : (an.extract 0 f ++ bn).size = f + bn.size := by rw [ByteArray.size_append, e1]
  have e4 : (ad ++ bd.extract (an.size - f) bd.size).size = ad.size + (bd.size - (an.size - f)) := by rw [ByteArray.size_append, e2]
  have hfit : fits s A (ad ++ bd.extract (an.size - f) bd.size) := by
    refine fits_of_bt (by omega) fun i hi2 => ?_
    rw [e4] at hi2
    by_cases c : i < ad.size
    · rw [bt_al c, fits_bt ha i c]
    · rw [bt_ar (by omega) (by omega), bt_extract _ _ _ _ (by omega) (by omega), ← fits_bt hb _ (by omega), bt_r sa (by omega) (by omega)]
      congr 1; omega
  refine ⟨hfit, bt_ext (by rw [doB_size hfit.1, doB_size sb, st, e3, e4]; omega) fun i hi2 => ?_⟩
  have sc := hfit.1
  rw [doB_size sc, e3, e4] at hi2
  by_cases c1 : i < A
  · rw [bt_l sc c1, bt_l sb (by omega), bt_l sa c1]
  · by_cases c2 : i < B
    · rw [bt_m sc (by omega) (by omega), bt_al (by omega), bt_extract _ _ _ _ (by omega) (by omega), bt_l sb c2, bt_m sa (by omega) (by omega)]
      congr 1; omega
    · by_cases c3 : i < B + bn.size
      · rw [bt_m sc (by omega) (by omega), bt_ar (by omega) (by omega), bt_m sb (by omega) c3]
        congr 1; omega
      · rw [bt_r sc (by omega) (by omega), bt_r sb (by omega) (by omega), bt_r sa (by omega) (by omega)]
        congr 1; omega

theorem joins_3 (g h : Nat) (hg : A = B + g) (hh : bd.size = g + h) (hi : h ≤ an.size) (ha : fits s A ad) (hb : fits (doB s A ad an) B bd) :
    fits s B (bd.extract 0 g ++ ad) ∧ doB s B (bd.extract 0 g ++ ad) (bn ++ an.extract h an.size) = doB (doB s A ad an) B bd bn := by
  have sa := ha.1
  have st : (doB s A ad an).size = s.size - ad.size + an.size := doB_size sa
  have sb := hb.1
  have e1 : (bd.extract 0 g).size = g := by rw [size_ext _ _ _ (by omega) (by omega)]; omega
  have e2 : (an.extract h an.size).size = an.size - h := size_ext _ _ _ hi (Nat.le_refl _)
  have e3 : (bn ++ an.extract h an.size).size = bn.size + (an.size - h) := by rw [ByteArray.size_append, e2]
  have e4 : (bd.extract 0 g ++ ad).size = g + ad.size := by rw [ByteArray.size_append, e1]
  have hfit : fits s B (bd.extract 0 g ++ ad) := by
    refine fits_of_bt (by omega) fun i hi2 => ?_
    rw [e4] at hi2
    by_cases c : i < g
    · rw [bt_al (by omega), bt_extract _ _ _ _ (by omega) (by omega), ← fits_bt hb _ (by omega), bt_l sa (by omega)]
      congr 1; omega
    · rw [bt_ar (by omega) (by omega), ← fits_bt ha _ (by omega)]
      congr 1; omega
  refine ⟨hfit, bt_ext (by rw [doB_size hfit.1, doB_size sb, st, e3, e4]; omega) fun i hi2 => ?_⟩
  have sc := hfit.1
  rw [doB_size sc, e3, e4] at hi2
  by_cases c1 : i < B
  · rw [bt_l sc c1, bt_l sb (by omega), bt_l sa (by omega)]
  · by_cases c3 : i < B + bn.size
    · rw [bt_m sc (by omega) (by omega), bt_al (by omega), bt_m sb (by omega) c3]
    · by_cases c4 : i < B + (bn.size + (an.size - h))
      · rw [bt_m sc (by omega) (by omega), bt_ar (by omega) (by omega), bt_extract _ _ _ _ (by omega) (by omega), bt_r sb (by omega) (by omega), bt_m sa (by omega) (by omega)]
        congr 1; omega
      · rw [bt_r sc (by omega) (by omega), bt_r sb (by omega) (by omega), bt_r sa (by omega) (by omega)]
        congr 1; omega

theorem joins_4 (g h : Nat) (hg : A = B + g) (hh : bd.size = g + h) (hi : an.size < h) (ha : fits s A ad) (hb : fits (doB s A ad an) B bd) :
    fits s B (bd.extract 0 g ++ ad ++ bd.extract (an.size + g) bd.size) ∧ doB s B (bd.extract 0 g ++ ad ++ bd.extract (an.size + g) bd.size) bn = doB (doB s A ad an) B bd bn := by
  have sa := ha.1
  have st : (doB s A ad an).size = s.size - ad.size + an.size := doB_size sa
  have sb := hb.1
  have e1 : (bd.extract 0 g).size = g := by rw [size_ext _ _ _ (by omega) (by omega)]; omega
  have e2 : (bd.extract (an.size + g) bd.size).size = bd.size - (an.size + g) := size_ext _ _ _ (by omega) (Nat.le_refl _)
  have e3 : (bd.extract 0 g ++ ad).size = g + ad.size := by rw [ByteArray.size_append, e1]
  have e4 : (bd.extract 0 g ++ ad ++ bd.extract (an.size + g) bd.size).size = g + ad.size + (bd.size - (an.size + g)) := by rw [ByteArray.size_append, e3, e2]
  have hfit : fits s B (bd.extract 0 g ++ ad ++ bd.extract (an.size + g) bd.size) := by
    refine fits_of_bt (by omega) fun i hi2 => ?_
    rw [e4] at hi2
    by_cases c : i < g
    · rw [bt_al (by omega), bt_al (by omega), bt_extract _ _ _ _ (by omega) (by omega), ← fits_bt hb _ (by omega), bt_l sa (by omega)]
      congr 1; omega
    · by_cases c2 : i < g + ad.size
      · rw [bt_al (by omega), bt_ar (by omega) (by omega), ← fits_bt ha _ (by omega)]
        congr 1; omega
      · rw [bt_ar (by omega) (by omega), bt_extract _ _ _ _ (by omega) (by omega), ← fits_bt hb _ (by omega), bt_r sa (by omega) (by omega)]
        congr 1; omega
  refine ⟨hfit, bt_ext (by rw [doB_size hfit.1, doB_size sb, st, e4]; omega) fun i hi2 => ?_⟩
  have sc := hfit.1
  rw [doB_size sc, e4] at hi2
  by_cases c1 : i < B
  · rw [bt_l sc c1, bt_l sb (by omega), bt_l sa (by omega)]
  · by_cases c3 : i < B + bn.size
    · rw [bt_m sc (by omega) (by omega), bt_m sb (by omega) c3]
    · rw [bt_r sc (by omega) (by omega), bt_r sb (by omega) (by omega), bt_r sa (by omega) (by omega)]
      congr 1; omega
end
end Go.Proofs.Ytgdamapocomhkaa

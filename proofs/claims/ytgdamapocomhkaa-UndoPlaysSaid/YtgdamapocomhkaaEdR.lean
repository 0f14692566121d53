/- More plain facts on the text behind an edit: its head, its middle and its tail, byte by byte. No condition: nothing here speaks of the program. -/
import Derived.Test.YtgdamapocomhkaaEdQ
namespace Go.Proofs.Ytgdamapocomhkaa
open Go.RowKit
set_option linter.unusedVariables false

section
variable {s d n : ByteArray} {k : Nat}
theorem doB_head (h1 : k + d.size ≤ s.size) : (doB s k d n).extract 0 k = s.extract 0 k := by
  have z0 : (s.extract 0 k).size = k := by simp; omega
  have z1 : (s.extract 0 k ++ n).size = k + n.size := by simp; omega
  unfold doB
  rw [ByteArray.extract_append, ByteArray.extract_append, z0, z1, Nat.sub_self, Nat.sub_eq_zero_of_le (Nat.le_add_right k n.size)]
  simp [ByteArray.extract_extract]
theorem doB_mid (h1 : k + d.size ≤ s.size) : (doB s k d n).extract k (k + n.size) = n := by
  have z0 : (s.extract 0 k).size = k := by simp; omega
  have z1 : (s.extract 0 k ++ n).size = k + n.size := by simp; omega
  unfold doB
  rw [ByteArray.extract_append, ByteArray.extract_append, z0, z1, Nat.sub_self, Nat.add_sub_cancel_left]
  have q1 : (s.extract 0 k).extract k (k + n.size) = ByteArray.empty := by
    apply ByteArray.ext
    apply Array.eq_empty_of_size_eq_zero
    simp; omega
  rw [q1]
  simp
theorem doB_tail (h1 : k + d.size ≤ s.size) : (doB s k d n).extract (k + n.size) (doB s k d n).size = s.extract (k + d.size) s.size := by
  have z1 : (s.extract 0 k ++ n).size = k + n.size := by simp; omega
  rw [doB_size h1]
  unfold doB
  rw [ByteArray.extract_append, z1, Nat.sub_self]
  have q1 : (s.extract 0 k ++ n).extract (k + n.size) (s.size - d.size + n.size) = ByteArray.empty := by
    apply ByteArray.ext
    apply Array.eq_empty_of_size_eq_zero
    simp; omega
  rw [q1, ByteArray.extract_extract]
  simp only [ByteArray.empty_append]
  congr 1
  omega
end
theorem bt_extract (s : ByteArray) (x y i : Nat) (h : x + i < y) (hy : y ≤ s.size) : bt (s.extract x y) i = bt s (x + i) := by
  have h1 : i < (s.extract x y).size := by simp; omega
  have h2 : x + i < s.data.size := by have : s.size = s.data.size := rfl; omega
  rw [bt_eq h1, bt_eq (by omega)]
  show (s.extract x y).data[i] = s.data[x + i]
  simp only [ByteArray.data_extract, Array.getElem_extract]
theorem doB_byte {s d n : ByteArray} {a i : Nat} (h : a + d.size ≤ s.size) :
    (i < a → bt (doB s a d n) i = bt s i) ∧ (a + d.size ≤ i → i < s.size → bt (doB s a d n) (i + n.size - d.size) = bt s i) := by
  have hz := doB_size (n := n) h
  refine ⟨fun hi => ?_, fun hi hl => ?_⟩
  · have e := bt_extract (doB s a d n) 0 a i (by omega) (by omega)
    rw [doB_head h, bt_extract s 0 a i (by omega) (by omega)] at e
    simpa using e.symm
  · have e := bt_extract (doB s a d n) (a + n.size) (doB s a d n).size (i - (a + d.size)) (by omega) (by omega)
    rw [doB_tail h, bt_extract s (a + d.size) s.size _ (by omega) (by omega)] at e
    rw [show a + d.size + (i - (a + d.size)) = i from by omega, show a + n.size + (i - (a + d.size)) = i + n.size - d.size from by omega] at e
    exact e.symm
end Go.Proofs.Ytgdamapocomhkaa

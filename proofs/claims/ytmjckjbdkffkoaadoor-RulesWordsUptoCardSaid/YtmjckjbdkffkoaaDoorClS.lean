/- The plain facts on the sixteen reserved words, each between blanks in one text: what stands there between two blanks, without a blank within, is one of them, and each stands there. No condition: nothing here speaks of the program. -/
import Derived.Test.YtmjckjbdkffkoaaDoorClP
namespace Go.Proofs.YtmjckjbdkffkoaaDoor
open Go.RowKit
set_option linter.unusedVariables false

/-- The reserved words. -/
def words : List (List UInt8) := [[33], [123], [125], [99, 97, 115, 101], [100, 111], [100, 111, 110, 101], [101, 108, 105, 102], [101, 108, 115, 101], [101, 115, 97, 99], [102, 105], [102, 111, 114], [105, 102], [105, 110], [116, 104, 101, 110], [117, 110, 116, 105, 108], [119, 104, 105, 108, 101]]
def resB (s : ByteArray) : Bool := words.contains s.data.toList
/-- The text of them all. -/
def wtext : ByteArray := ⟨#[32, 33, 32, 123, 32, 125, 32, 99, 97, 115, 101, 32, 100, 111, 32, 100, 111, 110, 101, 32, 101, 108, 105, 102, 32, 101, 108, 115, 101, 32, 101, 115, 97, 99, 32, 102, 105, 32, 102, 111, 114, 32, 105, 102, 32, 105, 110, 32, 116, 104, 101, 110, 32, 117, 110, 116, 105, 108, 32, 119, 104, 105, 108, 101, 32]⟩
def hit (s : ByteArray) (i : Nat) : Bool := (wtext.extract i (i + (1 + s.size + 1))).toList == (⟨#[32]⟩ ++ s ++ ⟨#[32]⟩ : ByteArray).toList
def hitL (l : List UInt8) (i : Nat) : Bool := (wtext.data.toList.drop i).take (1 + l.length + 1) == 32 :: (l ++ [32])
theorem hit_eq (s : ByteArray) (i : Nat) : hit s i = hitL s.data.toList i := by
  unfold hit hitL
  rw [Go.ByteArray.toList_eq, Go.ByteArray.toList_eq]
  have e1 : (wtext.extract i (i + (1 + s.size + 1))).data.toList = (wtext.data.toList.drop i).take (1 + s.data.toList.length + 1) := by
    rw [ByteArray.data_extract, Array.toList_extract, List.extract_eq_take_drop]
    congr 1
    have : s.data.toList.length = s.size := by simp
    omega
  have e2 : (⟨#[32]⟩ ++ s ++ ⟨#[32]⟩ : ByteArray).data.toList = 32 :: (s.data.toList ++ [32]) := by
    rw [ByteArray.data_append, ByteArray.data_append]; simp
  rw [e1, e2]
def seg (i n : Nat) : List UInt8 := (((wtext.data.toList.drop i).take (1 + n + 1)).drop 1).take n
def segOk (i n : Nat) : Bool := decide (n = 0) || !((wtext.data.toList.drop i).take (1 + n + 1) == 32 :: (seg i n ++ [32])) || (seg i n).contains 32 || words.contains (seg i n)
theorem seg_all : ((List.range 66).all fun i => (List.range 66).all fun n => segOk i n) = true := by decide +kernel
theorem word_all : (words.all fun l => (List.range 66).any fun i => decide (i + (1 + l.length + 1) ≤ 65) && hitL l i) = true := by decide +kernel
theorem inB_32 (s : ByteArray) : inB 32 s = s.data.toList.contains 32 := by
  unfold inB
  rw [List.contains_eq_any_beq]
  congr 1
  funext c
  rw [Bool.eq_iff_iff, beq_iff_eq, beq_iff_eq]
  constructor
  · intro h; exact UInt8.toNat_inj.1 h
  · rintro rfl; rfl
theorem hit_word {s : ByteArray} {i : Nat} (h0 : s.size ≠ 0) (hin : inB 32 s = false) (hi : i + (1 + s.size + 1) ≤ 65) (h : hit s i = true) : resB s = true := by
  rw [hit_eq] at h
  have hl : s.data.toList.length = s.size := by simp
  have hs := seg_all
  rw [List.all_eq_true] at hs
  have h1 := hs i (by simp; omega)
  rw [List.all_eq_true] at h1
  have h2 := h1 s.size (by simp; omega)
  unfold hitL at h
  rw [beq_iff_eq, hl] at h
  have hseg : seg i s.size = s.data.toList := by
    unfold seg
    rw [h, List.drop_succ_cons, List.drop_zero, ← hl, List.take_left']
    rfl
  unfold segOk at h2
  rw [hseg, h] at h2
  rw [inB_32] at hin
  rw [hin] at h2
  unfold resB
  simpa [h0] using h2
theorem word_hit {s : ByteArray} (h : resB s = true) : ∃ i, i + (1 + s.size + 1) ≤ 65 ∧ hit s i = true := by
  have hw := word_all
  rw [List.all_eq_true] at hw
  have h1 := hw s.data.toList (by unfold resB at h; simpa using h)
  rw [List.any_eq_true] at h1
  obtain ⟨i, _, hi⟩ := h1
  rw [Bool.and_eq_true, decide_eq_true_iff] at hi
  have hl : s.data.toList.length = s.size := by simp
  exact ⟨i, by omega, by rw [hit_eq]; exact hi.2⟩
theorem res_small {s : ByteArray} (h : resB s = true) : s.size ≤ 5 := by
  have hw : (words.all fun l => decide (l.length ≤ 5)) = true := by decide
  rw [List.all_eq_true] at hw
  have h1 := hw s.data.toList (by unfold resB at h; simpa using h)
  have hl : s.data.toList.length = s.size := by simp
  rw [decide_eq_true_iff] at h1
  omega
end Go.Proofs.YtmjckjbdkffkoaaDoor

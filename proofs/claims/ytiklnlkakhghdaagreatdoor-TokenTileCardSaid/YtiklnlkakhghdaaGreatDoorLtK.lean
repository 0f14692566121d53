/- Texts put together, and scans in which nothing begins: plain facts. No condition: nothing here speaks of the program. -/
import Derived.Test.YtiklnlkakhghdaaGreatDoorLtW
namespace Go.Proofs.YtiklnlkakhghdaaGreatDoor
open Go.RowKit
set_option linter.unusedVariables false

theorem nt_of {s : ByteArray} {k : Nat} {st : List Fr} {fr : Bool} (h : runK s k = ⟨st ++ [(0, 0)], fr⟩) : nt s k = st := by
  have := nt_st s k
  rw [h] at this
  exact (List.append_cancel_right this).symm
theorem Rm_all {s : ByteArray} {dbl : Bool} {sub : Nat → List Pc} {e : Nat} (he : e ≤ s.size) : ∀ (n a : Nat) (h : ByteArray) (w : Bool), (∀ x, a ≤ x → x < e → born s x = false) → e - a = n → a ≤ e → Rm s dbl sub e a h w = fl dbl (h ++ s.extract a e) w
  | 0, a, h, w, hb, hn, ha => by
    obtain rfl : a = e := by omega
    rw [Rm_end (by omega)]
    have : s.extract a a = ByteArray.empty := by
      have h1 : (s.extract a a).size = 0 := by simp
      exact ByteArray.ext (Array.eq_empty_of_size_eq_zero h1)
    rw [this, ByteArray.append_empty]
  | n + 1, a, h, w, hb, hn, ha => by
    rw [Rm_plain he (by omega) (hb a (Nat.le_refl _) (by omega)), Rm_all he n (a + 1) _ w (fun x h1 h2 => hb x (by omega) h2) (by omega) (by omega), ByteArray.append_assoc, ByteArray.extract_append_extract]
    rw [Nat.min_eq_left (by omega), Nat.max_eq_right (by omega)]
theorem fl_catW (f : Pc → ByteArray) (dbl : Bool) (h : ByteArray) (hf : f ⟨false, dbl, h⟩ = h) : catW f (fl dbl h false) = h ∧ (fl dbl h false).any (fun x => x.ex) = false := by
  unfold fl
  by_cases h0 : h.size = 0 ∧ false = false
  · rw [if_pos h0]
    refine ⟨?_, rfl⟩
    exact (ByteArray.ext (Array.eq_empty_of_size_eq_zero h0.1)).symm
  · rw [if_neg h0]
    refine ⟨?_, rfl⟩
    show f ⟨false, dbl, h⟩ ++ ByteArray.empty = h
    rw [hf, ByteArray.append_empty]
theorem by8_append (a b : ByteArray) (i : Nat) (hi : i < a.size + b.size) : by8 (a ++ b) i = if i < a.size then by8 a i else by8 b (i - a.size) := by
  have h0 : i < (a ++ b).size := by simp; omega
  unfold by8
  rw [bt_eq h0]
  have e : (a ++ b).data = a.data ++ b.data := by simp
  have sa : a.size = a.data.size := rfl
  have sb : b.size = b.data.size := rfl
  by_cases h : i < a.size
  · rw [if_pos h, bt_eq h]
    show ((a ++ b).data[i]).toNat = (a.data[i]).toNat
    simp only [e]
    exact congrArg UInt8.toNat (Array.getElem_append_left (by omega))
  · rw [if_neg h, bt_eq (by omega)]
    have h' : i - a.size < b.data.size := by omega
    show ((a ++ b).data[i]).toNat = (b.data[i - a.size]).toNat
    simp only [e]
    exact congrArg UInt8.toNat (Array.getElem_append_right (by omega))
theorem by8_one (b : UInt8) : by8 ⟨#[b]⟩ 0 = b.toNat := rfl
theorem runK_zero (s : ByteArray) : runK s 0 = ⟨[(0, 0)], true⟩ := rfl
theorem fl_empty (dbl : Bool) : fl dbl ByteArray.empty false = [] := rfl
theorem born_of {s : ByteArray} {a m : Nat} {R : List Fr} (h : nt s (a + 1) = (m, a) :: R) : born s a = true ∧ blw s a = R ∧ md s (a + 1) a = m := by
  refine ⟨pres_at (A := []) h, ?_, md_at (A := []) h⟩
  unfold blw
  rw [h]; rfl
theorem born_no {s : ByteArray} {a : Nat} {R : List Fr} (h : nt s (a + 1) = R) (hR : ∀ x ∈ R, x.2 < a) : born s a = false := by
  cases hb : born s a with
  | false => rfl
  | true =>
    obtain ⟨m, hm⟩ := pres_iff.1 (show pres s (a + 1) a = true from hb)
    rw [h] at hm
    have := hR _ hm
    simp at this
theorem ext_one {a b : ByteArray} (ha : a.size = 1) (hb : b.size = 1) (h : by8 a 0 = by8 b 0) : a = b := by
  apply ByteArray.ext
  apply Array.ext
  · exact ha.trans hb.symm
  · intro i h1 h2
    have ha' : a.data.size = 1 := ha
    obtain rfl : i = 0 := by omega
    apply UInt8.toNat_inj.1
    unfold by8 at h
    rw [bt_eq (by omega : 0 < a.size), bt_eq (by omega : 0 < b.size)] at h
    exact h
theorem by8_ext {s : ByteArray} {a b i : Nat} (hb : b ≤ s.size) (hi : i < b - a) : by8 (s.extract a b) i = by8 s (a + i) := by
  unfold by8
  rw [bt_extract s a b i hb hi]
theorem ext_size {s : ByteArray} {a b : Nat} (hb : b ≤ s.size) : (s.extract a b).size = b - a := by
  rw [ByteArray.size_extract]; omega
end Go.Proofs.YtiklnlkakhghdaaGreatDoor

/- What the document's own Bare of layer 8 (literal) returns: the text of all pieces. Condition: texts of at most 60,000 bytes. -/
import Derived.Test.YtiklnlkakhghdaaLtT
namespace Go.Proofs.Ytiklnlkakhghdaa
open Go.RowKit
set_option linter.unusedVariables false

theorem take_next {L : List Pc} {i : Nat} {p : Pc} (h : L[i]? = some p) : L.take (i + 1) = L.take i ++ [p] := by rw [List.take_add_one, h]; rfl
theorem bareL_take_le (L : List Pc) (i : Nat) : (bareL (L.take i)).size ≤ (bareL L).size := by
  have := bareL_append (L.take i) (L.drop i)
  rw [List.take_append_drop] at this
  rw [this, ByteArray.size_append]
  omega
theorem bareL_one (p : Pc) : bareL [p] = p.t := by show p.t ++ ByteArray.empty = _; rw [ByteArray.append_empty]
theorem PCs_len (s : ByteArray) (hs : s.size ≤ 60000) : (PCs s).length ≤ 120001 := by
  have := rm_len (s := s) (dbl := false) (sub := subT s) (e := s.size) (E := s.size) (Rch := fun _ => True) (Nat.le_refl _) (Nat.le_refl _) (fun _ _ _ _ => trivial) (fun a _ hlt hbn => ⟨trivial, (prt_le hlt hbn).1⟩) (fun a _ hlt hbn => subT_len hlt hbn) s.size 0 ByteArray.empty false trivial (Nat.zero_le _)
  have e : PCs s = rm s false (subT s) s.size s.size 0 ByteArray.empty false := rfl
  rw [e]
  omega
def BaRl (L : List Pc) (n : Nat) (w : World) (v4 v5 : Value) (wr : World) : Prop := ∃ i : Nat, i ≤ n ∧ v5 = .int .i64 (i : Int) ∧ v4 = .string (bareL (L.take i)) ∧ wr = w
section
variable (w : World)
set_option maxHeartbeats 4000000 in
theorem refbare_any (s : ByteArray) (hs : s.size ≤ 60000) :
    Calls Try.prog 12 #[.string s] w fun e w' => e = .returned (.string (bareL (PCs s))) ∧ Below w.heap.size w w' := by
  have htot := PCs_tot s
  have hcap := PCs_len s hs
  have hps := refpieces_any w s hs
  obtain ⟨L, hL⟩ : ∃ L, PCs s = L := ⟨_, rfl⟩
  rw [hL] at hps htot hcap ⊢
  have HPS := Lib.hid hps
  clear hps hL
  go_enter Try.func12, Try.ntmps12
  go_wp2_with fail
  refine (HPS.out).mono ?_
  rintro e w1 ⟨v, rfl, hP, hB⟩
  obtain ⟨oa, n, oc, rfl, hRd⟩ := hP.read
  have HRd := Lib.hid hRd
  have hnl : n ≤ 120001 := by have := hRd.len; omega
  clear hP hRd
  go_wp2
  go_loopw [4, 5] (fun v4 v5 wr => BaRl L n w1 v4 v5 wr) (fun _ v _ => n - (intOf v).toNat)
  case atStart => exact ⟨0, Nat.zero_le _, rfl, rfl, rfl⟩
  case round =>
    obtain ⟨i, hi, rfl, rfl, rfl⟩ := hrel
    by_cases hlt : (i : Int) < (n : Int)
    · have hlt' : i < n := by omega
      have q0 : (0 : Int) ≤ (i : Int) := by omega
      obtain ⟨ob, p, rfl, hp, _, a0, a1, a2⟩ := HRd.out.get hlt'
      have hsu := take_next hp
      have hle := bareL_take_le L (i + 1)
      rw [hsu, bareL_append, bareL_one] at hle
      have hz := ByteArray.size_append (a := bareL (L.take i)) (b := p.t)
      obtain ⟨X, hX⟩ : ∃ X, bareL (L.take i) = X := ⟨_, rfl⟩
      have hsu2 : bareL (L.take (i + 1)) = X ++ p.t := by rw [hsu, bareL_append, bareL_one, hX]
      rw [hX] at hle hz ⊢
      obtain ⟨T, hT⟩ : ∃ T, p.t = T := ⟨_, rfl⟩
      rw [hT] at hle hz a2 hsu2
      obtain ⟨Y, hY⟩ : ∃ Y, X ++ T = Y := ⟨_, rfl⟩
      rw [hY] at hle hz hsu2
      have HSU := Lib.hid hsu2
      have hYz : Y.size ≤ 60000 := by omega
      have hsum : X.size + T.size ≤ 60000 := by omega
      clear hsu hle hz hsu2 hX hp hT htot
      go_wp2
      go_roundw
      case rel => exact ⟨i + 1, by omega, by go_num, by rw [HSU.out], rfl⟩
      case measure => simp [intOf]; omega
    · obtain rfl : i = n := by omega
      have hall : L.take i = L := List.take_of_length_le (by rw [HRd.out.len]; exact Nat.le_refl _)
      rw [hall]
      clear hall htot
      go_wp2
      go_ret
      exact ⟨rfl, hB⟩
end
end Go.Proofs.Ytiklnlkakhghdaa

/- A row of parts as it is read, when two parts are the same, and what stands in the row of a text's parts: plain facts. Condition: texts of at most 60,000 bytes. -/
import Derived.Test.YtholjhdjlhkocaaPtI
namespace Go.Proofs.Ytholjhdjlhkocaa
open Go.RowKit
set_option linter.unusedVariables false

/-- Does a part expand? -/
def expB (p : Prt) : Bool := decide (p.mode = 1 ∨ p.mode = 6 ∨ p.mode = 7 ∨ p.mode = 8 ∨ p.mode = 9 ∨ (p.mode = 12 ∧ p.frm + 1 < p.to))
def aggP (p : Prt) : Value := .agg #[.int .i64 (p.mode : Int), .int .i64 (p.frm : Int), .int .i64 (p.to : Int), .int .i64 p.up, .bool p.op]

/-- A row of parts, for reading. -/
structure RdP (w : World) (oa : Option Addr) (n : Nat) (L : List Prt) : Prop where
  len : n = L.length
  cells : ∀ i p, L[i]? = some p → ∃ ob, oa = some ⟨ob, 0, none⟩ ∧ ob < w.heap.size ∧ ∀ c u, (cellP p)[c]? = some u → w.cell? ⟨ob, i * 5 + c, none⟩ = some u
theorem RdP.below {w w' : World} {oa : Option Addr} {n : Nat} {L : List Prt} (h : RdP w oa n L) (hb : Below w.heap.size w w') : RdP w' oa n L :=
  ⟨h.len, fun i p hp => by
    obtain ⟨ob, h1, h2, h3⟩ := h.cells i p hp
    exact ⟨ob, h1, Nat.lt_of_lt_of_le h2 hb.size, fun c u hu => (hb.cell (p := ⟨ob, i * 5 + c, none⟩) h2).trans (h3 c u hu)⟩⟩
theorem RdP.frm {q : Nat → Prop} {w w' : World} {oa : Option Addr} {n : Nat} {L : List Prt} (h : RdP w oa n L) (hb : Frm q w w') (hq : ∀ b, b < w.heap.size → ¬ q b) : RdP w' oa n L :=
  ⟨h.len, fun i p hp => by
    obtain ⟨ob, h1, h2, h3⟩ := h.cells i p hp
    exact ⟨ob, h1, Nat.lt_of_lt_of_le h2 hb.size, fun c u hu => (hb.cell h2 (hq ob h2)).trans (h3 c u hu)⟩⟩
theorem PtS.read {w : World} {base : Nat} {v : Value} {L : List Prt} (h : PtS w base v L) : ∃ oa n oc, v = .slice oa n oc ∧ RdP w oa n L := by
  have h' : w.ownsRow base 45 5 v L.length (cellsP L) := h
  obtain ⟨oa, oc, rfl⟩ := owns_slice h'
  refine ⟨oa, _, oc, rfl, rfl, fun i p hp => ?_⟩
  have hl : i < L.length := (List.getElem?_eq_some_iff.1 hp).1
  obtain ⟨ob, ocap, hov, _, _, _, hlt⟩ := owns_nil h' (by omega)
  obtain ⟨rfl, rfl⟩ : oa = some ⟨ob, 0, none⟩ ∧ oc = ocap := by simpa using hov
  refine ⟨ob, rfl, hlt, fun c u hu => ?_⟩
  have := h'.cells (g := ob) rfl (i * 5 + c) u (cellsP_at hp c u hu)
  rwa [Addr.add_lit, Nat.zero_add] at this
/-- A part of a row, its five cells. -/
theorem RdP.at {w : World} {oa : Option Addr} {n : Nat} {L : List Prt} (h : RdP w oa n L) {i : Nat} (hi : i < n) : ∃ ob p, oa = some ⟨ob, 0, none⟩ ∧ L[i]? = some p ∧ ob < w.heap.size ∧ w.cell? ⟨ob, i * 5, none⟩ = some (.int .i64 (p.mode : Int)) ∧ w.cell? ⟨ob, i * 5 + 1, none⟩ = some (.int .i64 (p.frm : Int)) ∧ w.cell? ⟨ob, i * 5 + 2, none⟩ = some (.int .i64 (p.to : Int)) ∧ w.cell? ⟨ob, i * 5 + 3, none⟩ = some (.int .i64 p.up) ∧ w.cell? ⟨ob, i * 5 + 4, none⟩ = some (.bool p.op) := by
  have hl : i < L.length := by have := h.len; omega
  obtain ⟨ob, h1, h2, h3⟩ := h.cells i L[i] (List.getElem?_eq_getElem hl)
  have h0 := h3 0 _ rfl
  rw [Nat.add_zero] at h0
  exact ⟨ob, L[i], h1, List.getElem?_eq_getElem hl, h2, h0, h3 1 _ rfl, h3 2 _ rfl, h3 3 _ rfl, h3 4 _ rfl⟩

/-- When two parts are the same. -/
theorem eq_part (a b c d a' b' c' d' : Int) (e e' : Bool) (w : World) : (Op.equalIn 10000 45 (.agg #[.int .i64 a, .int .i64 b, .int .i64 c, .int .i64 d, .bool e]) (.agg #[.int .i64 a', .int .i64 b', .int .i64 c', .int .i64 d', .bool e'])).run Try.prog w = .ok (a == a' && (b == b' && (c == c' && (d == d' && e == e')))) w := by
  have u3 := Try.underlying3
  have a3 := Try.isAgg3
  have z3 := Try.sizeOf3
  have u4 := Try.underlying4
  have a4 := Try.isAgg4
  have z4 := Try.sizeOf4
  have hS : Try.prog.underlying 45 = some (.struct (Try.prog.fieldsOf 45)) := by kernel_rfl
  rw [show (10000 : Nat) = 9999 + 1 from rfl, run_equalIn_agg w 9999 45 _ _ hS (by kernel_rfl)]
  simp only [Program.fieldsOf, Try.underlying45]
  go_simp
  by_cases h1 : a = a' <;> by_cases h2 : b = b' <;> by_cases h3 : c = c' <;> by_cases h4 : d = d' <;> simp [h1, h2, h3, h4]
  cases e <;> cases e' <;> rfl
theorem neq_part (a b c d : Int) (e : Bool) (w : World) : (binOp .neq 45 (.agg #[.int .i64 a, .int .i64 b, .int .i64 c, .int .i64 d, .bool e]) (.agg #[.int .i64 a, .int .i64 b, .int .i64 c, .int .i64 d, .bool e])).run Try.prog w = .ok (.bool false) w := by
  rw [run_neq_struct, eq_part]
  simp [Result.andThen]
theorem eql_part (a b c d : Int) (e : Bool) (w : World) : (binOp .eql 45 (.agg #[.int .i64 a, .int .i64 b, .int .i64 c, .int .i64 d, .bool e]) (.agg #[.int .i64 a, .int .i64 b, .int .i64 c, .int .i64 d, .bool e])).run Try.prog w = .ok (.bool true) w := by
  rw [run_eql_struct, eq_part]
  simp [Result.andThen]

theorem prt_le {s : ByteArray} {f : Nat} (hf : f < s.size) (hb : born s f = true) : (prt s f).to ≤ s.size ∧ (prt s f).mode ≤ 14 := by
  have he := eK_le s (Nat.le_of_lt hf)
  have hm := cnt_le (md_le s (eK s f s.size) f)
  rw [prt_eq hb hf]
  split
  · exact ⟨paramN_le s (f + 1) (by omega), by show 12 ≤ 14; omega⟩
  · refine ⟨?_, hm⟩
    show (if eK s f s.size = s.size then s.size else eK s f s.size + 1) ≤ s.size
    split <;> omega
/-- What stands in the row of a text's parts. -/
theorem PL_get {s : ByteArray} {i : Nat} {p : Prt} (h : (PL s)[i]? = some p) : ∃ f, (bornL s s.size)[i]? = some f ∧ p = prt s f ∧ f < s.size ∧ born s f = true ∧ p.frm = f ∧ p.to ≤ s.size ∧ p.mode ≤ 14 := by
  unfold PL at h
  rw [List.getElem?_map] at h
  cases hf : (bornL s s.size)[i]? with
  | none => rw [hf] at h; cases h
  | some f =>
    rw [hf] at h
    have e : prt s f = p := by simpa using h
    obtain ⟨_, h2, h3⟩ := idx_get hf
    have := prt_le h2 h3
    rw [← e]
    exact ⟨f, rfl, rfl, h2, h3, prt_frm s f, this.1, this.2⟩
theorem PL_len (s : ByteArray) : (PL s).length ≤ s.size := by unfold PL; rw [List.length_map]; exact bornL_len s _

theorem eg_parts : PL ⟨#[97, 39, 98, 39, 36, 120]⟩ = [⟨4, 1, 4, -1, false⟩, ⟨12, 4, 6, -1, false⟩] := by kernel_rfl
end Go.Proofs.Ytholjhdjlhkocaa

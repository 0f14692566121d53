/- What expands and Expands of layer 7 (parts), the document's own Expands, and what the statements' own same and awake return. Condition: texts of at most 60,000 bytes. -/
import Derived.Test.YthelcmjgikfbjaaPtI
namespace Go.Proofs.Ythelcmjgikfbjaa
open Go.RowKit
set_option linter.unusedVariables false

/-- Does a part expand? -/
def expB (p : Prt) : Bool := decide (p.mode = 1 ∨ p.mode = 6 ∨ p.mode = 7 ∨ p.mode = 8 ∨ p.mode = 9 ∨ (p.mode = 12 ∧ p.frm + 1 < p.to))
def aggP (p : Prt) : Value := .agg #[.int .i64 (p.mode : Int), .int .i64 (p.frm : Int), .int .i64 (p.to : Int), .int .i64 p.up, .bool p.op]

section
variable (w : World)
set_option maxHeartbeats 2000000 in
theorem expands_any (m f t : Nat) (up : Int) (op : Bool) (hf : f ≤ 1000000) (ht : t ≤ 1000000) :
    Calls Try.prog 34 #[.agg #[.int .i64 (m : Int), .int .i64 (f : Int), .int .i64 (t : Int), .int .i64 up, .bool op]] w fun e w' => e = .returned (.bool (expB ⟨m, f, t, up, op⟩)) ∧ Below w.heap.size w w' := by
  have e1 : IntKind.i64.wrap ((t : Int) - (f : Int)) = (t : Int) - (f : Int) := IntWalk.i64_in _ (by omega)
  go_enter Try.func34, Try.ntmps34
  go_wp2
  all_goals
    go_ret
    refine ⟨ret_bool ?_, (Below.refl _ _).alloc (Nat.le_refl _) _⟩
    unfold expB
    simp only [beq_iff_eq, beq_eq_false_iff_ne, ne_eq] at *
    try (rw [Bool.eq_iff_iff, decide_eq_true_iff])
    try simp
    try omega
set_option maxHeartbeats 4000000 in
theorem refexpands_any (m f t : Nat) (up : Int) (op : Bool) (hf : f ≤ 1000000) (ht : t ≤ 1000000) :
    Calls Try.prog 12 #[.agg #[.int .i64 (m : Int), .int .i64 (f : Int), .int .i64 (t : Int), .int .i64 up, .bool op]] w fun e w' => e = .returned (.bool (expB ⟨m, f, t, up, op⟩)) ∧ Below w.heap.size w w' := by
  have e1 : IntKind.i64.wrap ((f : Int) + 1) = (f : Int) + 1 := IntWalk.i64_in _ (by omega)
  go_enter Try.func12, Try.ntmps12
  go_wp2
  all_goals
    go_ret
    refine ⟨ret_bool ?_, (Below.refl _ _).alloc (Nat.le_refl _) _⟩
    unfold expB
    try (rw [Bool.eq_iff_iff, decide_eq_true_iff])
    try simp
    try omega
end

/-- A row of parts, for reading. -/
structure RdP (w : World) (oa : Option Addr) (n : Nat) (L : List Prt) : Prop where
  len : n = L.length
  cells : ∀ i p, L[i]? = some p → ∃ ob, oa = some ⟨ob, 0, none⟩ ∧ ob < w.heap.size ∧ ∀ c u, (cellP p)[c]? = some u → w.cell? ⟨ob, i * 5 + c, none⟩ = some u
theorem RdP.below {w w' : World} {oa : Option Addr} {n : Nat} {L : List Prt} (h : RdP w oa n L) (hb : Below w.heap.size w w') : RdP w' oa n L :=
  ⟨h.len, fun i p hp => by
    obtain ⟨ob, h1, h2, h3⟩ := h.cells i p hp
    exact ⟨ob, h1, Nat.lt_of_lt_of_le h2 hb.size, fun c u hu => (hb.cell (p := ⟨ob, i * 5 + c, none⟩) h2).trans (h3 c u hu)⟩⟩
theorem RdP.frm {q : Nat → Prop} {w w' : World} {oa : Option Addr} {n : Nat} {L : List Prt} (h : RdP w oa n L) (hb : Frm q w w') (hq : ∀ b, b < w.heap.size → ¬ q b) : RdP w' oa n L :=
  ⟨h.len, fun i p hp => by
    obtain ⟨ob, h1, h2, h3⟩ := h.cells i p hp
    exact ⟨ob, h1, Nat.lt_of_lt_of_le h2 hb.size, fun c u hu => (hb.cell h2 (hq ob h2)).trans (h3 c u hu)⟩⟩
theorem PtS.read {w : World} {base : Nat} {v : Value} {L : List Prt} (h : PtS w base v L) : ∃ oa n oc, v = .slice oa n oc ∧ RdP w oa n L := by
  have h' : w.ownsRow base 27 5 v L.length (cellsP L) := h
  obtain ⟨oa, oc, rfl⟩ := owns_slice h'
  refine ⟨oa, _, oc, rfl, rfl, fun i p hp => ?_⟩
  have hl : i < L.length := (List.getElem?_eq_some_iff.1 hp).1
  obtain ⟨ob, ocap, hov, _, _, _, hlt⟩ := owns_nil h' (by omega)
  obtain ⟨rfl, rfl⟩ : oa = some ⟨ob, 0, none⟩ ∧ oc = ocap := by simpa using hov
  refine ⟨ob, rfl, hlt, fun c u hu => ?_⟩
  have := h'.cells (g := ob) rfl (i * 5 + c) u (cellsP_at hp c u hu)
  rwa [Addr.add_lit, Nat.zero_add] at this
/-- A part of a row, its five cells. -/
theorem RdP.at {w : World} {oa : Option Addr} {n : Nat} {L : List Prt} (h : RdP w oa n L) {i : Nat} (hi : i < n) : ∃ ob p, oa = some ⟨ob, 0, none⟩ ∧ L[i]? = some p ∧ ob < w.heap.size ∧ w.cell? ⟨ob, i * 5, none⟩ = some (.int .i64 (p.mode : Int)) ∧ w.cell? ⟨ob, i * 5 + 1, none⟩ = some (.int .i64 (p.frm : Int)) ∧ w.cell? ⟨ob, i * 5 + 2, none⟩ = some (.int .i64 (p.to : Int)) ∧ w.cell? ⟨ob, i * 5 + 3, none⟩ = some (.int .i64 p.up) ∧ w.cell? ⟨ob, i * 5 + 4, none⟩ = some (.bool p.op) := by
  have hl : i < L.length := by have := h.len; omega
  obtain ⟨ob, h1, h2, h3⟩ := h.cells i L[i] (List.getElem?_eq_getElem hl)
  have h0 := h3 0 _ rfl
  rw [Nat.add_zero] at h0
  exact ⟨ob, L[i], h1, List.getElem?_eq_getElem hl, h2, h0, h3 1 _ rfl, h3 2 _ rfl, h3 3 _ rfl, h3 4 _ rfl⟩

/-- When two parts are the same. -/
theorem eq_part (a b c d a' b' c' d' : Int) (e e' : Bool) (w : World) : (Op.equalIn 10000 27 (.agg #[.int .i64 a, .int .i64 b, .int .i64 c, .int .i64 d, .bool e]) (.agg #[.int .i64 a', .int .i64 b', .int .i64 c', .int .i64 d', .bool e'])).run Try.prog w = .ok (a == a' && (b == b' && (c == c' && (d == d' && e == e')))) w := by
  have u3 := Try.underlying3
  have a3 := Try.isAgg3
  have z3 := Try.sizeOf3
  have u4 := Try.underlying4
  have a4 := Try.isAgg4
  have z4 := Try.sizeOf4
  have hS : Try.prog.underlying 27 = some (.struct (Try.prog.fieldsOf 27)) := by kernel_rfl
  rw [show (10000 : Nat) = 9999 + 1 from rfl, run_equalIn_agg w 9999 27 _ _ hS (by kernel_rfl)]
  simp only [Program.fieldsOf, Try.underlying27]
  go_simp
  by_cases h1 : a = a' <;> by_cases h2 : b = b' <;> by_cases h3 : c = c' <;> by_cases h4 : d = d' <;> simp [h1, h2, h3, h4]
  cases e <;> cases e' <;> rfl
theorem neq_part (a b c d : Int) (e : Bool) (w : World) : (binOp .neq 27 (.agg #[.int .i64 a, .int .i64 b, .int .i64 c, .int .i64 d, .bool e]) (.agg #[.int .i64 a, .int .i64 b, .int .i64 c, .int .i64 d, .bool e])).run Try.prog w = .ok (.bool false) w := by
  rw [run_neq_struct, eq_part]
  simp [Result.andThen]
theorem eql_part (a b c d : Int) (e : Bool) (w : World) : (binOp .eql 27 (.agg #[.int .i64 a, .int .i64 b, .int .i64 c, .int .i64 d, .bool e]) (.agg #[.int .i64 a, .int .i64 b, .int .i64 c, .int .i64 d, .bool e])).run Try.prog w = .ok (.bool true) w := by
  rw [run_eql_struct, eq_part]
  simp [Result.andThen]

section
variable (w : World)
def SaRl (n : Nat) (w : World) (v : Value) (wr : World) : Prop := ∃ i : Nat, i ≤ n ∧ v = .int .i64 (i : Int) ∧ Frm (fun _ => False) w wr
set_option maxHeartbeats 2000000 in
theorem same_any (oa oa2 : Option Addr) (n n2 oc oc2 : Nat) (L : List Prt) (hA : RdP w oa n L) (hB : RdP w oa2 n2 L) (hn : n ≤ 1000000) :
    Calls Try.prog 13 #[.slice oa n oc, .slice oa2 n2 oc2] w fun e w' => e = .returned (.bool true) ∧ Frm (fun _ => False) w w' := by
  obtain rfl : n = n2 := hA.len.trans hB.len.symm
  have HA := Lib.hid hA
  have HB := Lib.hid hB
  clear hA hB
  have hnn : ((n : Int) != (n : Int)) = false := by simp
  go_enter Try.func13, Try.ntmps13
  go_wp2
  go_loopw [5] (fun v wr => SaRl n w v wr) (fun v _ => n - (intOf v).toNat)
  case atStart => exact ⟨0, Nat.zero_le _, rfl, Frm.refl _ _⟩
  case round =>
    obtain ⟨i, hi, rfl, hF⟩ := hrel
    by_cases hlt : (i : Int) < (n : Int)
    · have hlt' : i < n := by omega
      have q0 : (0 : Int) ≤ (i : Int) := by omega
      obtain ⟨ob, p, rfl, hp, _, a0, a1, a2, a3, a4⟩ := (HA.out.frm hF (fun _ _ h => h)).at hlt'
      obtain ⟨ob2, p2, rfl, hp2, _, b0, b1, b2, b3, b4⟩ := (HB.out.frm hF (fun _ _ h => h)).at hlt'
      obtain rfl : p = p2 := by rw [hp] at hp2; simpa using hp2
      obtain ⟨m, f, t, up, op⟩ := p
      simp only at a0 a1 a2 a3 a4 b0 b1 b2 b3 b4
      have hneq := neq_part (m : Int) (f : Int) (t : Int) up op
      clear hp hp2
      go_wp2
      go_quiet (fail)
      go_wp2
      go_roundw
      case rel => exact ⟨i + 1, by omega, by go_num, hF.drewN _⟩
      case measure => simp [intOf]; omega
    · obtain rfl : i = n := by omega
      go_wp2
      go_ret
      exact ⟨rfl, hF⟩

theorem prt_le {s : ByteArray} {f : Nat} (hf : f < s.size) (hb : born s f = true) : (prt s f).to ≤ s.size ∧ (prt s f).mode ≤ 14 := by
  have he := eK_le s (Nat.le_of_lt hf)
  have hm := cnt_le (md_le s (eK s f s.size) f)
  rw [prt_eq hb hf]
  split
  · exact ⟨paramN_le s (f + 1) (by omega), by show 12 ≤ 14; omega⟩
  · refine ⟨?_, hm⟩
    show (if eK s f s.size = s.size then s.size else eK s f s.size + 1) ≤ s.size
    split <;> omega
/-- What stands in the row of a text's parts. -/
theorem PL_get {s : ByteArray} {i : Nat} {p : Prt} (h : (PL s)[i]? = some p) : ∃ f, (bornL s s.size)[i]? = some f ∧ p = prt s f ∧ f < s.size ∧ born s f = true ∧ p.frm = f ∧ p.to ≤ s.size ∧ p.mode ≤ 14 := by
  unfold PL at h
  rw [List.getElem?_map] at h
  cases hf : (bornL s s.size)[i]? with
  | none => rw [hf] at h; cases h
  | some f =>
    rw [hf] at h
    have e : prt s f = p := by simpa using h
    obtain ⟨_, h2, h3⟩ := idx_get hf
    have := prt_le h2 h3
    rw [← e]
    exact ⟨f, rfl, rfl, h2, h3, prt_frm s f, this.1, this.2⟩
theorem PL_len (s : ByteArray) : (PL s).length ≤ s.size := by unfold PL; rw [List.length_map]; exact bornL_len s _

def ExRl (L : List Prt) (n : Nat) (w : World) (v : Value) (wr : World) : Prop := ∃ i : Nat, i ≤ n ∧ v = .int .i64 (i : Int) ∧ (L.take i).any expB = false ∧ Below w.heap.size w wr
set_option maxHeartbeats 4000000 in
theorem expandsS_any (s : ByteArray) (hs : s.size ≤ 60000) :
    Calls Try.prog 15 #[.string s] w fun e w' => e = .returned (.bool ((PL s).any expB)) ∧ Below w.heap.size w w' := by
  go_enter Try.func15, Try.ntmps15
  go_wp2_with fail
  refine (of_parts_any w s (by omega)).mono ?_
  rintro e w1 ⟨⟨v, rfl, hP⟩, hB⟩
  obtain ⟨oa, n, oc, rfl, hR⟩ := hP.read
  have hnl : n ≤ 60000 := by have h1 := hR.len; have h2 := PL_len s; omega
  have HR := Lib.hid hR
  clear hR hP
  go_wp2
  go_loopw [8] (fun v wr => ExRl (PL s) n w1 v wr) (fun v _ => n - (intOf v).toNat)
  case atStart => exact ⟨0, Nat.zero_le _, rfl, by simp, Below.refl _ _⟩
  case round =>
    obtain ⟨i, hi, rfl, ha, hBr⟩ := hrel
    by_cases hlt : (i : Int) < (n : Int)
    · have hlt' : i < n := by omega
      have q0 : (0 : Int) ≤ (i : Int) := by omega
      obtain ⟨ob, p, rfl, hp, _, a0, a1, a2, a3, a4⟩ := (HR.out.below hBr).at hlt'
      obtain ⟨f0, _, _, hf0, _, hpf, hpt, _⟩ := PL_get hp
      have hsu : (PL s).take (i + 1) = (PL s).take i ++ [p] := by rw [List.take_add_one, hp]; rfl
      have HSU := Lib.hid hsu
      have HP := Lib.hid hp
      have HAn := Lib.hid ha
      obtain ⟨x, hx⟩ : ∃ x, expB p = x := ⟨_, rfl⟩
      have HX := Lib.hid hx
      have hex := fun W => expands_any W p.mode p.frm p.to p.up p.op (by omega) (by omega)
      rw [show (⟨p.mode, p.frm, p.to, p.up, p.op⟩ : Prt) = p from rfl, hx] at hex
      have HEX := Lib.hid hex
      obtain ⟨m, f, t, up, op⟩ := p
      simp only at a0 a1 a2 a3 a4 HEX
      clear ha hp hsu hx hex hpf hpt
      have hsz := hBr.size
      cases x
      · go_wp2_with fail
        refine (HEX.out _).mono ?_
        rintro e w3 ⟨rfl, hb3⟩
        have hb4 : Below w1.heap.size w1 w3 := (hBr.alloc hsz (.cells #[.int .i64 (m : Int), .int .i64 (f : Int), .int .i64 (t : Int), .int .i64 up, .bool op] 27)).trans (hb3.mono (by rw [World.size_alloc]; omega))
        go_wp2
        go_roundw
        case rel =>
          refine ⟨i + 1, by omega, by go_num, ?_, hb4⟩
          rw [HSU.out, List.any_append, HAn.out]
          simp [HX.out]
        case measure => simp [intOf]; omega
      · go_wp2_with fail
        refine (HEX.out _).mono ?_
        rintro e w3 ⟨rfl, hb3⟩
        have hb4 : Below w1.heap.size w1 w3 := (hBr.alloc hsz (.cells #[.int .i64 (m : Int), .int .i64 (f : Int), .int .i64 (t : Int), .int .i64 up, .bool op] 27)).trans (hb3.mono (by rw [World.size_alloc]; omega))
        go_wp2
        go_ret
        refine ⟨ret_bool ?_, hB.trans (hb4.mono hB.size)⟩
        symm
        rw [List.any_eq_true]
        exact ⟨_, List.mem_of_getElem? HP.out, HX.out⟩
    · obtain rfl : i = n := by omega
      have HAn := Lib.hid ha
      clear ha
      go_wp2
      go_ret
      refine ⟨ret_bool ?_, hB.trans (hBr.mono hB.size)⟩
      have h1 := HAn.out
      rw [HR.out.len, List.take_length] at h1
      exact h1.symm

theorem eg_parts : PL ⟨#[97, 39, 98, 39, 36, 120]⟩ = [⟨4, 1, 4, -1, false⟩, ⟨12, 4, 6, -1, false⟩] := by kernel_rfl
end
end Go.Proofs.Ythelcmjgikfbjaa

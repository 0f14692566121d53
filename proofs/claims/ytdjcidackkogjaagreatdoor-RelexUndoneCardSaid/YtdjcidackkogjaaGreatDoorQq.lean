/- Rows of tokens and of delimiters, held against each other: what Same of layer 9 (token), the document's own Same, the library's Equal and the statements' SameTokens return. Condition: rows of at most a million elements.
Lexings that are read, held against each other. No condition.
What the statements' SameTokens; the statements TokenLex and TokenSame. Condition: texts of at most 900 bytes; the program's table of operators lies as start-up lays it. -/
import Derived.Test.YtdjcidackkogjaaGreatDoorTkL
import Derived.Deep.QuietTactic
import Derived.BigQuiet
import Derived.Test.YtdjcidackkogjaaGreatDoorQn
import Derived.Test.YtdjcidackkogjaaGreatDoorTkK
namespace Go.Proofs.YtdjcidackkogjaaGreatDoor
open Go.RowKit
set_option linter.unusedVariables false
set_option linter.unusedSectionVars false

def sameD : List Dl → List Dl → Bool
  | [], [] => true
  | a :: r, b :: s => (decide (a.word = b.word) && a.tabs == b.tabs) && sameD r s
  | _, _ => false
theorem sameD_refl : ∀ l, sameD l l = true
  | [] => rfl
  | a :: r => by unfold sameD; rw [sameD_refl r]; simp
theorem sameD_len : ∀ {a b : List Dl}, sameD a b = true → a.length = b.length
  | [], [], _ => rfl
  | a :: r, b :: s, h => by
    unfold sameD at h
    rw [Bool.and_eq_true] at h
    rw [List.length_cons, List.length_cons, sameD_len h.2]
  | [], b :: s, h => by cases h
  | a :: r, [], h => by cases h
theorem sameD_eq : ∀ {a b : List Dl}, sameD a b = true → a = b
  | [], [], _ => rfl
  | ⟨w, t⟩ :: r, ⟨w2, t2⟩ :: s, h => by
    unfold sameD at h
    simp only [Bool.and_eq_true, decide_eq_true_eq, beq_iff_eq] at h
    obtain ⟨⟨h1, h2⟩, h3⟩ := h
    subst h1 h2
    rw [sameD_eq h3]
  | [], b :: s, h => by cases h
  | a :: r, [], h => by cases h
theorem sameD_iff {a b : List Dl} : sameD a b = true ↔ a = b := ⟨sameD_eq, fun h => by rw [h]; exact sameD_refl b⟩
theorem sameD_no {a b : List Dl} {i : Nat} {x y : Dl} (hx : a[i]? = some x) (hy : b[i]? = some y) (h : (decide (x.word = y.word) && x.tabs == y.tabs) = false) : sameD a b = false := by
  cases hs : sameD a b with
  | false => rfl
  | true =>
    have e := sameD_eq hs
    rw [e, hy] at hx
    injection hx with hx
    rw [hx] at h
    simp at h
theorem sameD_all {a b : List Dl} (hl : a.length = b.length) (h : ∀ (i : Nat) (x y : Dl), a[i]? = some x → b[i]? = some y → (decide (x.word = y.word) && x.tabs == y.tabs) = true) : sameD a b = true := by
  refine sameD_iff.2 (List.ext_getElem? fun i => ?_)
  cases ha : a[i]? with
  | none =>
    rw [List.getElem?_eq_none_iff] at ha
    rw [eq_comm, List.getElem?_eq_none_iff]
    omega
  | some x =>
    have hi := (List.getElem?_eq_some_iff.1 ha).1
    have hb : b[i]? = some b[i] := List.getElem?_eq_getElem (by omega)
    have := h i x _ ha hb
    rw [hb]
    simp only [Bool.and_eq_true, decide_eq_true_eq, beq_iff_eq] at this
    obtain ⟨w, t⟩ := x
    obtain ⟨h1, h2⟩ := this
    simp only at h1 h2
    rw [h1, h2]
structure RdD (W : World) (oa : Option Addr) (n : Nat) (l : List Dl) : Prop where
  len : n = l.length
  cells : ∀ (j : Nat) d, l[j]? = some d → ∃ b off, oa = some ⟨b, off, none⟩ ∧ b < W.heap.size ∧ W.cell? ⟨b, off + j * 2, none⟩ = some (.string d.word) ∧ W.cell? ⟨b, off + j * 2 + 1, none⟩ = some (.bool d.tabs)
theorem RdD.below {W W' : World} {oa : Option Addr} {n : Nat} {l : List Dl} (h : RdD W oa n l) (hb : Below W.heap.size W W') : RdD W' oa n l :=
  ⟨h.len, fun j d hj => by
    obtain ⟨b, off, h1, h2, h3, h4⟩ := h.cells j d hj
    exact ⟨b, off, h1, Nat.lt_of_lt_of_le h2 hb.size, (hb.cell (p := ⟨b, off + j * 2, none⟩) h2).trans h3, (hb.cell (p := ⟨b, off + j * 2 + 1, none⟩) h2).trans h4⟩⟩
theorem cellsD_get : ∀ (l : List Dl) (j k : Nat) (d : Dl), l[j]? = some d → k < 2 → (cellsD l)[j * 2 + k]? = (cellD d)[k]?
  | [], j, k, d, h, _ => by cases h
  | a :: l, 0, k, d, h, hk => by
    cases h
    show (cellD a ++ cellsD l)[0 * 2 + k]? = _
    rw [List.getElem?_append_left (by show 0 * 2 + k < 2; omega), Nat.zero_mul, Nat.zero_add]
  | a :: l, j + 1, k, d, h, hk => by
    show (cellD a ++ cellsD l)[(j + 1) * 2 + k]? = _
    rw [List.getElem?_append_right (by show 2 ≤ _; omega), show (j + 1) * 2 + k - (cellD a).length = j * 2 + k from by show (j + 1) * 2 + k - 2 = _; omega]
    exact cellsD_get l j k d h hk
theorem RdD.of_src {W : World} {oa : Option Addr} {n c : Nat} {l : List Dl} (h : Src W (.slice oa n c) l.length (cellsD l)) (hn : n = l.length) : RdD W oa n l := by
  refine ⟨hn, fun j d hj => ?_⟩
  rcases h with ⟨_, h1, _⟩ | ⟨b, off, c2, h1, h2, h3⟩
  · have := (List.getElem?_eq_some_iff.1 hj).1; omega
  · injection h1 with h4
    have g := fun k hk => cellsD_get l j k d hj hk
    refine ⟨b, off, h4, h2, h3 (j * 2) _ (g 0 (by omega)), ?_⟩
    exact h3 (j * 2 + 1) _ (g 1 (by omega))
theorem eq_dl (a c : ByteArray) (b d : Bool) (w : World) : (Op.equalIn 10000 87 (.agg #[.string a, .bool b]) (.agg #[.string c, .bool d])).run Tryz.prog w = .ok (decide (a = c) && b == d) w := by
  have u3 := Tryz.underlying9
  have a3 := Tryz.isAgg9
  have z3 := Tryz.sizeOf9
  have u4 := Tryz.underlying4
  have a4 := Tryz.isAgg4
  have z4 := Tryz.sizeOf4
  have hb := bs_eqb a c
  have hS : Tryz.prog.underlying 87 = some (.struct (Tryz.prog.fieldsOf 87)) := by kernel_rfl
  rw [show (10000 : Nat) = 9999 + 1 from rfl, run_equalIn_agg w 9999 87 _ _ hS (by kernel_rfl)]
  simp only [Program.fieldsOf, Tryz.underlying87]
  go_simp
  by_cases h1 : a = c <;> cases b <;> cases d <;> simp_all
theorem neq_dl (a c : ByteArray) (b d : Bool) (w : World) : (binOp .neq 87 (.agg #[.string a, .bool b]) (.agg #[.string c, .bool d])).run Tryz.prog w = .ok (.bool (!(decide (a = c) && b == d))) w := by
  rw [run_neq_struct, eq_dl]
  simp [Result.andThen]
section
variable (w : World) (a b : List Dl) (oa ob : Option Addr) (n m c e : Nat) (ha : RdD w oa n a) (hb : RdD w ob m b) (hn : n ≤ 1000000) (hm : m ≤ 1000000)
include ha hb hn hm
def sameX (A1 A2 : Int) (p q : List Dl) (b1 b2 : Bool) : Bool := decide (A1 = A2) && ((b1 == b2) && sameD p q)
def RsRl (W : World) (n : Nat) (a b : List Dl) (v2 : Value) (wr : World) : Prop := ∃ i : Nat, i ≤ n ∧ v2 = .int .i64 (i : Int) ∧ (∀ j x y, j < i → a[j]? = some x → b[j]? = some y → (decide (x.word = y.word) && x.tabs == y.tabs) = true) ∧ Below W.heap.size W wr
set_option maxRecDepth 100000 in
set_option maxHeartbeats 4000000 in
theorem rsame_any (A1 A2 : Int) (b1 b2 : Bool) : Calls Tryz.prog 21 #[.agg #[.int .i64 A1, .slice oa n c, .bool b1], .agg #[.int .i64 A2, .slice ob m e, .bool b2]] w fun e w' => e = .returned (.bool (sameX A1 A2 a b b1 b2)) ∧ Below w.heap.size w w' := by
  have k1 := (Blk.new w #[.int .i64 A1, .slice oa n c, .bool b1] 50).alloc (.cells #[.int .i64 A2, .slice ob m e, .bool b2] 50)
  have k2 := blk_a2 w (.cells #[.int .i64 A1, .slice oa n c, .bool b1] 50) #[.int .i64 A2, .slice ob m e, .bool b2] 50
  have hB := below_a2' w (.cells #[.int .i64 A1, .slice oa n c, .bool b1] 50) (.cells #[.int .i64 A2, .slice ob m e, .bool b2] 50)
  have hla := ha.len
  have hlb := hb.len
  have HA := Lib.hid (ha.below hB)
  have HB := Lib.hid (hb.below hB)
  have HLA := Lib.hid hla
  have HLB := Lib.hid hlb
  have x0 := k1.cell 0
  have x1 := k1.cell 1
  have x2 := k1.cell 2
  have y0 := k2.cell 0
  have y1 := k2.cell 1
  have y2 := k2.cell 2
  clear ha hb hla hlb
  unfold sameX
  by_cases h1 : A1 = A2
  · have hd : decide (A1 = A2) = true := decide_eq_true h1
    rw [hd]
    subst h1
    by_cases h2 : b1 = b2
    · have hd2 : (b1 == b2) = true := beq_iff_eq.2 h2
      rw [hd2, Bool.true_and, Bool.true_and]
      subst h2
      obtain ⟨S, hS⟩ : ∃ S, sameD a b = S := ⟨_, rfl⟩
      have HS := Lib.hid hS
      rw [hS]
      clear hS
      by_cases hnm : n = m
      · subst hnm
        go_enter Tryz.func21, Tryz.ntmps21
        go_wp2
        obtain ⟨W1, hW1⟩ : ∃ X, (w.alloc (.cells #[.int .i64 A1, .slice oa n c, .bool b1] 50)).alloc (.cells #[.int .i64 A1, .slice ob n e, .bool b1] 50) = X := ⟨_, rfl⟩
        rw [hW1] at k1 k2 hB HA HB ⊢
        clear hW1 x0 x1 x2 y0 y1 y2
        go_loopw [5] (fun v2 wr => RsRl W1 n a b v2 wr) (fun v _ => n - (intOf v).toNat)
        case atStart => exact ⟨0, Nat.zero_le _, rfl, fun j x y h => by omega, Below.refl _ _⟩
        case round =>
          obtain ⟨i, hi, rfl, hal, hbl⟩ := hrel
          have HAL := Lib.hid hal
          have HBL := Lib.hid hbl
          have x1 := (k1.below hbl).cell 1
          have y1 := (k2.below hbl).cell 1
          clear hal
          by_cases hlt : i < n
          · have q1 : (i : Int) < (n : Int) := by omega
            have q0 : (0 : Int) ≤ (i : Int) := by omega
            have hxa : a[i]? = some (a[i]'(by have := HLA.out; omega)) := List.getElem?_eq_getElem _
            have hxb : b[i]? = some (b[i]'(by have := HLB.out; omega)) := List.getElem?_eq_getElem _
            generalize a[i]'(by have := HLA.out; omega) = x at hxa
            generalize b[i]'(by have := HLB.out; omega) = y at hxb
            obtain ⟨g1, o1, rfl, h1, c0, c1⟩ := (HA.out.below hbl).cells i x hxa
            obtain ⟨g2, o2, rfl, h2, d0, d1⟩ := (HB.out.below hbl).cells i y hxb
            obtain ⟨w1, t1⟩ := x
            obtain ⟨w2, t2⟩ := y
            have hneq := neq_dl w1 w2 t1 t2
            obtain ⟨E, hE⟩ : ∃ E, (decide (w1 = w2) && t1 == t2) = E := ⟨_, rfl⟩
            rw [hE] at hneq
            dsimp only at c0 c1 d0 d1
            have HE := Lib.hid hE
            have HXA := Lib.hid hxa
            have HXB := Lib.hid hxb
            clear hE hxa hxb hbl
            cases E with
            | true =>
              simp only [Bool.not_true] at hneq
              go_wp2
              go_quiet (fail)
              go_wp2
              go_roundw
              case rel =>
                refine ⟨i + 1, by omega, by go_num, fun j x y hj hx hy => ?_, below_drewN HBL.out _⟩
                by_cases ej : j = i
                · subst ej
                  rw [HXA.out] at hx
                  rw [HXB.out] at hy
                  injection hx with hx
                  injection hy with hy
                  rw [← hx, ← hy]
                  exact HE.out
                · exact HAL.out j x y (by omega) hx hy
              case measure => simp [intOf]; omega
            | false =>
              simp only [Bool.not_false] at hneq
              go_wp2
              go_quiet (fail)
              go_wp2
              go_ret
              refine ⟨?_, hB.trans ((below_drewN HBL.out _).mono hB.size)⟩
              rw [← HS.out, sameD_no HXA.out HXB.out HE.out]
              rfl
          · have q1 : ¬ (i : Int) < (n : Int) := by omega
            have hin : i = n := by omega
            have HIN := Lib.hid hin
            clear hin hlt hbl
            go_wp2
            go_ret
            refine ⟨?_, hB.trans (HBL.out.mono hB.size)⟩
            rw [← HS.out, sameD_all (by rw [← HLA.out]; exact HLB.out) (fun j x y hx hy => HAL.out j x y (by have := (List.getElem?_eq_some_iff.1 hx).1; have := HLA.out; have := HIN.out; omega) hx hy)]
            rfl
      · have t1 : ((n : Int) == (m : Int)) = false := beq_eq_false_iff_ne.2 (by omega)
        have t2 : ((n : Int) != (m : Int)) = true := by rw [bne, t1]; rfl
        have hSf : S = false := by
          rw [← HS.out]
          cases h : sameD a b with
          | false => rfl
          | true => exact absurd (by have := sameD_len h; have := HLA.out; have := HLB.out; omega) hnm
        have HSF := Lib.hid hSf
        clear hSf hnm
        go_enter Tryz.func21, Tryz.ntmps21
        go_wp2
        go_ret
        exact ⟨by rw [HSF.out]; rfl, hB⟩
    · have hd2 : (b1 == b2) = false := beq_eq_false_iff_ne.2 h2
      have t2 : (b1 != b2) = true := by rw [bne, hd2]; rfl
      rw [hd2, Bool.true_and, Bool.false_and]
      go_enter Tryz.func21, Tryz.ntmps21
      go_wp2
      go_ret
      exact ⟨rfl, hB⟩
  · have hd : decide (A1 = A2) = false := decide_eq_false h1
    have t1 : (A1 == A2) = false := beq_eq_false_iff_ne.2 h1
    have t2 : (A1 != A2) = true := by rw [bne, t1]; rfl
    rw [hd, Bool.false_and]
    clear h1 hd
    go_enter Tryz.func21, Tryz.ntmps21
    go_wp2
    go_ret
    exact ⟨rfl, hB⟩
end
end Go.Proofs.YtdjcidackkogjaaGreatDoor
namespace Go.Proofs.YtdjcidackkogjaaGreatDoor
open Go.RowKit
set_option linter.unusedVariables false

theorem sameX_refl (A : Int) (p : List Dl) (b : Bool) : sameX A A p p b b = true := by
  unfold sameX
  rw [sameD_refl]
  simp
end Go.Proofs.YtdjcidackkogjaaGreatDoor
namespace Go.Proofs.YtdjcidackkogjaaGreatDoor
open Go.RowKit
set_option linter.unusedVariables false
set_option linter.unusedSectionVars false

def StRl (W : World) (n : Nat) (v : Value) (wr : World) : Prop := ∃ i : Nat, i ≤ n ∧ v = .int .i64 (i : Int) ∧ Below W.heap.size W wr
section
variable (w : World) (l : List Tk) (oa ob : Option Addr) (n c e : Nat) (ha : RdK w oa n l) (hb : RdK w ob n l) (hn : n ≤ 1000000)
include ha hb hn
set_option maxRecDepth 100000 in
set_option maxHeartbeats 4000000 in
theorem sameT_any : Calls Tryz.prog 18 #[.slice oa n c, .slice ob n e] w fun e w' => e = .returned (.bool true) ∧ Below w.heap.size w w' := by
  have hla := ha.len
  have HA := Lib.hid ha
  have HB := Lib.hid hb
  have HLA := Lib.hid hla
  clear ha hb hla
  go_enter Tryz.func18, Tryz.ntmps18
  go_wp2
  go_loopw [5] (fun v wr => StRl w n v wr) (fun v _ => n - (intOf v).toNat)
  case atStart => exact ⟨0, Nat.zero_le _, rfl, Below.refl _ _⟩
  case round =>
    obtain ⟨i, hi, rfl, hbl⟩ := hrel
    have HBL := Lib.hid hbl
    by_cases hlt : i < n
    · have q1 : (i : Int) < (n : Int) := by omega
      have q0 : (0 : Int) ≤ (i : Int) := by omega
      have hxa : l[i]? = some (l[i]'(by have := HLA.out; omega)) := List.getElem?_eq_getElem _
      generalize l[i]'(by have := HLA.out; omega) = x at hxa
      obtain ⟨g1, o1, rfl, h1, c0, c1, c2, c3⟩ := (HA.out.below hbl).cells i x hxa
      obtain ⟨g2, o2, rfl, h2, d0, d1, d2, d3⟩ := (HB.out.below hbl).cells i x hxa
      obtain ⟨tk, tf, te, top⟩ := x
      have hneq := neq_tk tk tf te top
      dsimp only at c0 c1 c2 c3 d0 d1 d2 d3
      clear hxa hbl
      go_wp2
      go_quiet (fail)
      go_wp2
      go_roundw
      case rel => exact ⟨i + 1, by omega, by go_num, below_drewN HBL.out _⟩
      case measure => simp [intOf]; omega
    · have q1 : ¬ (i : Int) < (n : Int) := by omega
      clear hlt hbl
      go_wp2
      go_ret
      exact ⟨rfl, HBL.out⟩
end
end Go.Proofs.YtdjcidackkogjaaGreatDoor

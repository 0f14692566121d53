/- What the reader of layer 12 (rules) does with a row: one, any, take, and the forms of Program, List, AndOr, Pipe, Simple and Word at the rows of a plain command. Condition: rows of at most a million pieces. -/
import Derived.Test.YtmjckjbdkffkoaaDoorRuC
import Derived.Test.YtmjckjbdkffkoaaDoorRuO
import Derived.Test.YtmjckjbdkffkoaaDoorRuP
namespace Go.Proofs.YtmjckjbdkffkoaaDoor
open Go.RowKit
set_option linter.unusedVariables false

/-- The reader in memory. -/
def Rdw (w : World) (b : Nat) (row : ByteArray) (a : Nat) : Prop := Blk w b #[.string row, .int .i64 (a : Int)] 111
/-- Does a piece of those stand at a place? -/
def oneP (row : ByteArray) (of' : ByteArray) (a : Nat) : Bool := decide (a < row.size) && decide (0 ≤ Lib.indexByte of'.data.toList (bt row a))
/-- What a step of the reader leaves. -/
def StF (b : Nat) (row : ByteArray) (a : Nat) (w w' : World) : Prop := Rdw w' b row a ∧ Frm (fun k => k = b) w w'
theorem StF.trans {b : Nat} {row : ByteArray} {a c : Nat} {w w1 w2 : World} (h : StF b row a w w1) (k : StF b row c w1 w2) : StF b row c w w2 := ⟨k.1, h.2.trans k.2 (fun _ _ h => h)⟩
section
variable (w : World)
set_option maxRecDepth 100000 in
set_option maxHeartbeats 2000000 in
theorem one_yes (b : Nat) (row : ByteArray) (of' : ByteArray) (a : Nat) (h : Rdw w b row a) (hrow : row.size ≤ 1000000) (hx : oneP row of' a = true) :
    Calls Tryd.prog 103 #[.pointer (some ⟨b, 0, none⟩), .string of'] w fun e w' => e = .returned (.bool true) ∧ StF b row (a + 1) w w' := by
  obtain ⟨ha, hv⟩ : a < row.size ∧ 0 ≤ Lib.indexByte of'.data.toList (bt row a) := by
    unfold oneP at hx
    simpa using hx
  have c0 := h.cell 0
  have c1 := h.cell 1
  have f1 := h.frozen 1
  simp only [List.getElem?_toArray, List.getElem?_cons_zero, List.getElem?_cons_succ] at c0 c1
  rw [bt_eq ha] at hv
  obtain ⟨v, hvv⟩ : ∃ v, Lib.indexByte of'.data.toList row[a] = v := ⟨_, rfl⟩
  rw [hvv] at hv
  have hix : ∀ W, Calls Tryd.prog 97 #[.string of', .int .u8 (row[a].toNat : Int)] W fun e w' => e = .returned (.int .i64 v) ∧ w' = W := fun W => by
    have := index_any of' (row[a].toNat : Int) W
    rwa [Int.toNat_natCast, show row[a].toNat.toUInt8 = row[a] from by simp, hvv] at this
  have HIX := Lib.hid hix
  have q0 : (0 : Int) ≤ (a : Int) := by omega
  have q1 : (a : Int) < (row.size : Int) := by omega
  have t0 : ((a : Int) == (row.size : Int)) = false := beq_eq_false_iff_ne.2 (by omega)
  have t0' : (a == row.size) = false := beq_eq_false_iff_ne.2 (by omega)
  have t1 : decide (v < 0) = false := by simp; omega
  have t2 : ¬ v < 0 := by omega
  have e1 : IntKind.i64.wrap ((a : Int) + 1) = (a : Int) + 1 := IntWalk.i64_in _ (by omega)
  have HH := Lib.hid h
  clear h hx hvv hix
  go_enter Tryd.func103, Tryd.ntmps103
  go_wp2_with fail
  go_quiet ((go_at_call 97; exact Calls.quiet_of_same (HIX.out _)))
  go_wp2
  go_ret
  exact ⟨rfl, by have := (Blk.drewN HH.out nq).set 1 (.int .i64 ((a : Int) + 1)); simpa [Rdw] using this, Frm.setCell (p := fun k => k = b) ((Frm.refl _ w).drewN nq) 1 (.inl rfl) _⟩
set_option maxRecDepth 100000 in
set_option maxHeartbeats 2000000 in
theorem one_no (b : Nat) (row : ByteArray) (of' : ByteArray) (a : Nat) (h : Rdw w b row a) (hrow : row.size ≤ 1000000) (hle : a ≤ row.size) (hx : oneP row of' a = false) :
    Calls Tryd.prog 103 #[.pointer (some ⟨b, 0, none⟩), .string of'] w fun e w' => e = .returned (.bool false) ∧ StF b row a w w' := by
  have c0 := h.cell 0
  have c1 := h.cell 1
  simp only [List.getElem?_toArray, List.getElem?_cons_zero, List.getElem?_cons_succ] at c0 c1
  have HH := Lib.hid h
  by_cases ha : a < row.size
  · have hv : Lib.indexByte of'.data.toList (bt row a) < 0 := by
      unfold oneP at hx
      simp [ha] at hx
      exact hx
    rw [bt_eq ha] at hv
    obtain ⟨v, hvv⟩ : ∃ v, Lib.indexByte of'.data.toList row[a] = v := ⟨_, rfl⟩
    rw [hvv] at hv
    have hix : ∀ W, Calls Tryd.prog 97 #[.string of', .int .u8 (row[a].toNat : Int)] W fun e w' => e = .returned (.int .i64 v) ∧ w' = W := fun W => by
      have := index_any of' (row[a].toNat : Int) W
      rwa [Int.toNat_natCast, show row[a].toNat.toUInt8 = row[a] from by simp, hvv] at this
    have HIX := Lib.hid hix
    have q0 : (0 : Int) ≤ (a : Int) := by omega
    have q1 : (a : Int) < (row.size : Int) := by omega
    have t0 : ((a : Int) == (row.size : Int)) = false := beq_eq_false_iff_ne.2 (by omega)
    have t0' : (a == row.size) = false := beq_eq_false_iff_ne.2 (by omega)
    have t1 : decide (v < 0) = true := by simpa using hv
    clear h hx hvv hix
    go_enter Tryd.func103, Tryd.ntmps103
    go_wp2_with fail
    go_quiet ((go_at_call 97; exact Calls.quiet_of_same (HIX.out _)))
    go_wp2
    go_ret
    exact ⟨rfl, Blk.drewN HH.out nq, (Frm.refl _ w).drewN nq⟩
  · have t0 : ((a : Int) == (row.size : Int)) = true := beq_iff_eq.2 (by omega)
    have t0' : (a == row.size) = true := beq_iff_eq.2 (by omega)
    clear h hx
    go_enter Tryd.func103, Tryd.ntmps103
    go_wp2_with fail
    go_quiet (fail)
    go_wp2
    go_ret
    exact ⟨rfl, Blk.drewN HH.out nq, (Frm.refl _ w).drewN nq⟩
/-- The reader's place. -/
def atC (w : World) (b : Nat) : Nat := match w.cell? ⟨b, 1, none⟩ with
  | some v => (intOf v).toNat
  | none => 0
theorem Rdw.atC {w : World} {b : Nat} {row : ByteArray} {a : Nat} (h : Rdw w b row a) : atC w b = a := by
  have c1 := h.cell 1
  simp only [List.getElem?_toArray, List.getElem?_cons_zero, List.getElem?_cons_succ] at c1
  unfold Go.Proofs.YtmjckjbdkffkoaaDoor.atC
  rw [c1]
  simp [intOf]
def AnR (b : Nat) (row : ByteArray) (a e : Nat) (w wr : World) : Prop := ∃ k : Nat, a ≤ k ∧ k ≤ e ∧ StF b row k w wr
set_option maxRecDepth 100000 in
set_option maxHeartbeats 2000000 in
theorem any_to (b : Nat) (row : ByteArray) (of' : ByteArray) (a e : Nat) (h : Rdw w b row a) (hrow : row.size ≤ 1000000) (hae : a ≤ e) (hle : e ≤ row.size) (hx : ∀ i, a ≤ i → i < e → oneP row of' i = true) (hy : oneP row of' e = false) :
    Calls Tryd.prog 119 #[.pointer (some ⟨b, 0, none⟩), .string of'] w fun r w' => (∃ v, r = .returned v) ∧ StF b row e w w' := by
  have HX := Lib.hid hx
  have HY := Lib.hid hy
  have HH := Lib.hid (show AnR b row a e w w from ⟨a, Nat.le_refl _, hae, h, Frm.refl _ _⟩)
  clear hx hy h
  go_enter Tryd.func119, Tryd.ntmps119
  go_wp2_with fail
  go_loopw [6] (fun v6 wr => AnR b row a e w wr) (fun _ wr => e - atC wr b)
  case atStart => exact HH.out
  case round =>
    obtain ⟨k, hk, hke, hS⟩ := hrel
    by_cases hlt : k < e
    · have hon := one_yes wr b row of' k hS.1 hrow (HX.out k hk hlt)
      have HS := Lib.hid hS
      clear hS
      go_wp2_with fail
      refine hon.mono ?_
      rintro r w1 ⟨rfl, hst⟩
      have HST := Lib.hid hst
      clear hst
      go_wp2
      go_roundw
      case rel => exact ⟨k + 1, by omega, by omega, HS.out.trans HST.out⟩
      case measure => rw [HST.out.1.atC, HS.out.1.atC]; omega
    · obtain rfl : k = e := by omega
      have hon := one_no wr b row of' k hS.1 hrow hle HY.out
      have HS := Lib.hid hS
      clear hS
      go_wp2_with fail
      refine hon.mono ?_
      rintro r w1 ⟨rfl, hst⟩
      have HST := Lib.hid hst
      clear hst
      go_wp2
      go_end0
      exact ⟨⟨_, rfl⟩, HS.out.trans HST.out⟩
/-- A form leads from a place to another one; f: what is left of it. -/
inductive TkOk (row : ByteArray) : ByteArray → Nat → Nat → Prop
  | nil {f : ByteArray} {a : Nat} : f.size = 0 → TkOk row f a a
  | star {f p b g : ByteArray} {a e a' : Nat} : 1 ≤ f.size → f.extract 0 1 = p → f.extract 1 f.size = b → hpB b ⟨#[42]⟩ = true → 1 ≤ b.size → b.extract 1 b.size = g → a ≤ e → e ≤ row.size → (∀ i, a ≤ i → i < e → oneP row p i = true) → oneP row p e = false → g.size < f.size → TkOk row g e a' → TkOk row f a a'
  | opt {f p b g : ByteArray} {a e a' : Nat} : 1 ≤ f.size → f.extract 0 1 = p → f.extract 1 f.size = b → hpB b ⟨#[42]⟩ = false → hpB b ⟨#[63]⟩ = true → 1 ≤ b.size → b.extract 1 b.size = g → (oneP row p a = true ∧ e = a + 1 ∨ oneP row p a = false ∧ e = a ∧ a ≤ row.size) → g.size < f.size → TkOk row g e a' → TkOk row f a a'
  | one {f p b : ByteArray} {a a' : Nat} : 1 ≤ f.size → f.extract 0 1 = p → f.extract 1 f.size = b → hpB b ⟨#[42]⟩ = false → hpB b ⟨#[63]⟩ = false → oneP row p a = true → b.size < f.size → TkOk row b (a + 1) a' → TkOk row f a a'
def TkR (b : Nat) (row : ByteArray) (a' : Nat) (w : World) (v1 : Value) (wr : World) : Prop := ∃ f a, v1 = .string f ∧ f.size ≤ 1000000 ∧ StF b row a w wr ∧ TkOk row f a a'
def szS (v : Value) : Nat := match v with
  | .string s => s.size
  | _ => 0
set_option maxRecDepth 100000 in
set_option maxHeartbeats 4000000 in
theorem take_to (b : Nat) (row : ByteArray) (f : ByteArray) (a a' : Nat) (h : Rdw w b row a) (hrow : row.size ≤ 1000000) (hf : f.size ≤ 1000000) (hk : TkOk row f a a') :
    Calls Tryd.prog 98 #[.pointer (some ⟨b, 0, none⟩), .string f] w fun r w' => r = .returned (.bool true) ∧ StF b row a' w w' := by
  have HH := Lib.hid (show TkR b row a' w (.string f) w from ⟨f, a, rfl, hf, ⟨h, Frm.refl _ _⟩, hk⟩)
  clear h hf hk
  go_enter Tryd.func98, Tryd.ntmps98
  go_wp2_with fail
  go_loopw [1] (fun v1 wr => TkR b row a' w v1 wr) (fun v1 _ => szS v1)
  case atStart => exact HH.out
  case round =>
    obtain ⟨f, a, rfl, hf, hS, hk⟩ := hrel
    cases hk with
    | nil h0 =>
      have t0 := le_yes h0
      have t1 := le_iyes h0
      have HS := Lib.hid hS
      clear hS h0
      go_wp2
      go_ret
      exact ⟨rfl, HS.out⟩
    | @star _ p bb g _ e _ h1 hp hb h42 hb1 hg hae hle hx hy hlt hrest =>
      have t0 := le_no (x := f) (by omega)
      have t1 := le_ino (x := f) (by omega)
      have q1 : (1 : Int) ≤ (f.size : Int) := by omega
      have hbs : bb.size ≤ 1000000 := by rw [← hb]; simp; omega
      have hHP := Lib.hid (fun W => by have := hp_any bb ⟨#[42]⟩ W (by omega) (by decide); rw [h42] at this; exact this)
      have q2 : (1 : Int) ≤ (bb.size : Int) := by omega
      have HS := Lib.hid hS
      have HLT := Lib.hid hlt
      have HREST := Lib.hid hrest
      have HX := Lib.hid hx
      have HY := Lib.hid hy
      clear hS hlt hrest hx hy h42
      go_wp2_with fail
      go_quiet (fail)
      obtain ⟨W2, hW2⟩ : ∃ X, wr.drewN nq = X := ⟨_, rfl⟩
      have hS2 : StF b row a w W2 := by rw [← hW2]; exact ⟨Blk.drewN HS.out.1 nq, HS.out.2.drewN nq⟩
      rw [hW2]
      clear hW2
      have HAN := Lib.hid (any_to W2 b row p a e hS2.1 hrow hae hle HX.out HY.out)
      have HS2 := Lib.hid hS2
      clear hS2
      go_wp2_with fail
      refine (hHP.out _).mono ?_
      rintro r w1 ⟨rfl, rfl⟩
      go_wp2_with fail
      refine HAN.out.mono ?_
      rintro r w2 ⟨⟨v, rfl⟩, hst⟩
      have HST := Lib.hid hst
      clear hst
      go_wp2
      go_roundw
      case rel => exact ⟨g, e, rfl, by have := HLT.out; omega, HS2.out.trans HST.out, HREST.out⟩
      case measure => exact HLT.out
    | @opt _ p bb g _ e _ h1 hp hb h42 h63 hb1 hg he hlt hrest =>
      have t0 := le_no (x := f) (by omega)
      have t1 := le_ino (x := f) (by omega)
      have q1 : (1 : Int) ≤ (f.size : Int) := by omega
      have hbs : bb.size ≤ 1000000 := by rw [← hb]; simp; omega
      have hHP := Lib.hid (fun W => by have := hp_any bb ⟨#[42]⟩ W (by omega) (by decide); rw [h42] at this; exact this)
      have hHQ := Lib.hid (fun W => by have := hp_any bb ⟨#[63]⟩ W (by omega) (by decide); rw [h63] at this; exact this)
      have q2 : (1 : Int) ≤ (bb.size : Int) := by omega
      have HS := Lib.hid hS
      have HLT := Lib.hid hlt
      have HREST := Lib.hid hrest
      have hon : ∀ W2, StF b row a w W2 → ∃ x, Calls Tryd.prog 103 #[.pointer (some ⟨b, 0, none⟩), .string p] W2 fun r w' => r = .returned (.bool x) ∧ StF b row e W2 w' := by
        intro W2 h0
        rcases he with ⟨h, rfl⟩ | ⟨h, rfl, h2⟩
        · exact ⟨_, one_yes W2 b row p a h0.1 hrow h⟩
        · exact ⟨_, one_no W2 b row p e h0.1 hrow h2 h⟩
      have HON0 := Lib.hid hon
      clear hS hlt hrest h42 h63 he hon
      go_wp2_with fail
      go_quiet (fail)
      obtain ⟨W2, hW2⟩ : ∃ X, wr.drewN nq = X := ⟨_, rfl⟩
      have hS2 : StF b row a w W2 := by rw [← hW2]; exact ⟨Blk.drewN HS.out.1 nq, HS.out.2.drewN nq⟩
      rw [hW2]
      clear hW2
      obtain ⟨x, hon⟩ := HON0.out W2 hS2
      have HON := Lib.hid hon
      have HS2 := Lib.hid hS2
      clear hS2 hon
      go_wp2_with fail
      refine (hHP.out _).mono ?_
      rintro r w1 ⟨rfl, rfl⟩
      go_wp2_with fail
      refine (hHQ.out _).mono ?_
      rintro r w1 ⟨rfl, rfl⟩
      go_wp2_with fail
      refine HON.out.mono ?_
      rintro r w2 ⟨rfl, hst⟩
      have HST := Lib.hid hst
      clear hst
      go_wp2
      go_roundw
      case rel => exact ⟨g, e, rfl, by have := HLT.out; omega, HS2.out.trans HST.out, HREST.out⟩
      case measure => exact HLT.out
    | @one _ p bb _ _ h1 hp hb h42 h63 hx hlt hrest =>
      have t0 := le_no (x := f) (by omega)
      have t1 := le_ino (x := f) (by omega)
      have q1 : (1 : Int) ≤ (f.size : Int) := by omega
      have hbs : bb.size ≤ 1000000 := by rw [← hb]; simp; omega
      have hHP := Lib.hid (fun W => by have := hp_any bb ⟨#[42]⟩ W (by omega) (by decide); rw [h42] at this; exact this)
      have hHQ := Lib.hid (fun W => by have := hp_any bb ⟨#[63]⟩ W (by omega) (by decide); rw [h63] at this; exact this)
      have HS := Lib.hid hS
      have HLT := Lib.hid hlt
      have HREST := Lib.hid hrest
      have HX := Lib.hid hx
      clear hS hlt hrest h42 h63 hx
      go_wp2_with fail
      go_quiet (fail)
      obtain ⟨W2, hW2⟩ : ∃ X, wr.drewN nq = X := ⟨_, rfl⟩
      have hS2 : StF b row a w W2 := by rw [← hW2]; exact ⟨Blk.drewN HS.out.1 nq, HS.out.2.drewN nq⟩
      rw [hW2]
      clear hW2
      have HON := Lib.hid (one_yes W2 b row p a hS2.1 hrow HX.out)
      have HS2 := Lib.hid hS2
      clear hS2
      go_wp2_with fail
      refine (hHP.out _).mono ?_
      rintro r w1 ⟨rfl, rfl⟩
      go_wp2_with fail
      refine (hHQ.out _).mono ?_
      rintro r w1 ⟨rfl, rfl⟩
      go_wp2_with fail
      refine HON.out.mono ?_
      rintro r w2 ⟨rfl, hst⟩
      have HST := Lib.hid hst
      clear hst
      go_wp2
      go_roundw
      case rel => exact ⟨bb, a + 1, rfl, by have := HLT.out; omega, HS2.out.trans HST.out, HREST.out⟩
      case measure => exact HLT.out
end
end Go.Proofs.YtmjckjbdkffkoaaDoor

/- What Text of layer 5 (oper) and the document's own Text return: an operator's text. Condition: the program's table lies as start-up lays it. -/
import Derived.Test.YtlfmpjneopeadaaDoorOpA
namespace Go.Proofs.YtlfmpjneopeadaaDoor
open Go.RowKit
set_option linter.unusedVariables false

/-- No more than the order was drawn. -/
def Drew (w w' : World) : Prop := ∃ q, w' = w.drewN q
theorem Drew.below {w w' : World} (h : Drew w w') {n : Nat} : Below n w w' := by obtain ⟨q, rfl⟩ := h; exact below_drewN (Below.refl _ _) _
theorem Drew.refl (w : World) : Drew w w := ⟨0, rfl⟩
theorem Drew.trans {a b c : World} (h : Drew a b) (k : Drew b c) : Drew a c := by obtain ⟨q, rfl⟩ := h; obtain ⟨r, rfl⟩ := k; exact ⟨q + r, by simp [World.drewN, Nat.add_assoc]⟩
theorem Drew.drew {a b : World} (h : Drew a b) : Drew a b.drew := by obtain ⟨q, rfl⟩ := h; exact ⟨q + 1, rfl⟩
theorem Drew.drewN {a b : World} (h : Drew a b) (n : Nat) : Drew a (b.drewN n) := h.trans ⟨n, rfl⟩
theorem Drew.cell {a b : World} (h : Drew a b) (p : Addr) : b.cell? p = a.cell? p := by obtain ⟨q, rfl⟩ := h; rfl
theorem Drew.heap {a b : World} (h : Drew a b) : b.heap = a.heap := by obtain ⟨q, rfl⟩ := h; rfl

/-- The program's table of operators lies as start-up lays it. -/
def Tx (w : World) : Prop := 0 < w.heap.size ∧ ∀ i, i < 18 → w.cell? ⟨0, i, none⟩ = some (.string (txt i))
theorem Tx.below {w w' : World} {n : Nat} (h : Tx w) (hb : Below n w w') (hn : 0 < n) : Tx w' :=
  ⟨Nat.lt_of_lt_of_le h.1 hb.size, fun i hi => (hb.cell (p := ⟨0, i, none⟩) hn).trans (h.2 i hi)⟩
theorem Tx.b {w w' : World} (h : Tx w) (hb : Below w.heap.size w w') : Tx w' := h.below hb h.1
theorem Tx.d {w w' : World} (h : Tx w) (hb : Drew w w') : Tx w' := h.b hb.below

set_option maxHeartbeats 1000000 in
theorem text_any (op : Int) (w : World) (hT : Tx w) :
    Calls Tryd.prog 13 #[.int .i64 op] w fun e w' => e = .returned (.string (txt op.toNat)) ∧ w' = w := by
  by_cases h : 0 ≤ op ∧ op < 18
  · obtain ⟨k, rfl⟩ := Int.eq_ofNat_of_zero_le h.1
    have hk : (k : Int) < 18 := h.2
    have hk2 : k < 18 := by omega
    have hc := hT.2 k (by omega)
    rw [Int.toNat_natCast]
    obtain ⟨t, ht⟩ : ∃ t, txt k = t := ⟨_, rfl⟩
    rw [ht] at hc ⊢
    have hd : decide ((k : Int) < 0) = false := by simp
    have hd2 : decide (18 ≤ (k : Int)) = false := by simp; omega
    clear h ht
    go_enter Tryd.func13, Tryd.ntmps13
    go_wp2
    go_ret
    exact ⟨rfl, rfl⟩
  · have ht : txt op.toNat = ⟨#[]⟩ := txt_out (by omega)
    rw [ht]
    clear ht
    by_cases g : op < 0
    · have hd : decide (op < 0) = true := by simpa using g
      clear h
      go_enter Tryd.func13, Tryd.ntmps13
      go_wp2
      go_ret
      exact ⟨rfl, rfl⟩
    · have h2 : 18 ≤ op := by omega
      have hd : decide (op < 0) = false := by simpa using g
      have hd2 : decide (18 ≤ op) = true := by simpa using h2
      clear h
      go_enter Tryd.func13, Tryd.ntmps13
      go_wp2
      go_ret
      exact ⟨rfl, rfl⟩

/-- The document's row of texts, three bytes each. -/
def allT : ByteArray := ⟨#[38, 38, 32, 124, 124, 32, 59, 59, 32, 60, 60, 32, 60, 60, 45, 62, 62, 32, 60, 38, 32, 62, 38, 32, 60, 62, 32, 62, 124, 32, 60, 32, 32, 62, 32, 32, 38, 32, 32, 59, 32, 32, 124, 32, 32, 40, 32, 32, 41, 32, 32]⟩
def allB3 (k m : Nat) : Bool := (List.range 3).all fun i => decide (m ≤ i → (bt allT (3 * k + i)).toNat = 32)
theorem allT_txt {k m : Nat} (hk : k < 17) (hm : m ≤ 3) (h : allB3 k m = true) (h0 : m = 0 ∨ (bt allT (3 * k + (m - 1))).toNat ≠ 32) : allT.extract (3 * k) (3 * k + m) = txt (k + 1) := by
  have : ∀ k, k < 17 → ∀ m, m < 4 → allB3 k m = true → (m = 0 ∨ (bt allT (3 * k + (m - 1))).toNat ≠ 32) → allT.extract (3 * k) (3 * k + m) = txt (k + 1) := by decide +kernel
  exact this k hk m (by omega) h h0
theorem allB3_step {k m : Nat} (h : allB3 k (m + 1) = true) (e : (bt allT (3 * k + m)).toNat = 32) : allB3 k m = true := by
  unfold allB3 at h ⊢
  rw [List.all_eq_true] at h ⊢
  intro i hi
  have := h i hi
  rw [decide_eq_true_iff] at this ⊢
  intro hm
  by_cases g : i = m
  · rw [g]; exact e
  · exact this (by omega)
theorem ret_str {a b : ByteArray} (h : a = b) : Ending.returned (.string a) = .returned (.string b) := by rw [h]
def strLen (v : Value) : Nat := match v with
  | .string s => s.size
  | _ => 0
theorem by_yes {s : ByteArray} {k : Nat} {c : Nat} (h : k < s.size) (e : (bt s k).toNat = c) : ((s[k].toNat : Int) == (c : Int)) = true := by
  rw [bt_eq h] at e; rw [e]; simp
theorem by_no {s : ByteArray} {k : Nat} {c : Nat} (h : k < s.size) (e : (bt s k).toNat ≠ c) : ((s[k].toNat : Int) == (c : Int)) = false := by
  rw [bt_eq h] at e
  rw [beq_eq_false_iff_ne]
  intro g
  exact e (by omega)
set_option maxHeartbeats 1000000 in
theorem reftext_in (k o : Nat) (hk : k < 17) (ho : Hid (o = k + 1)) (w : World) :
    Calls Tryd.prog 11 #[.int .i64 o] w fun e w' => e = .returned (.string (txt o)) ∧ w' = w := by
  have h1 : decide ((o : Int) < 1) = false := decide_eq_false_iff_not.2 (by have := ho.out; omega)
  have h2 : decide (17 < (o : Int)) = false := decide_eq_false_iff_not.2 (by have := ho.out; omega)
  have h1' : decide (o < 1) = false := decide_eq_false_iff_not.2 (by have := ho.out; omega)
  have h2' : decide (17 < o) = false := decide_eq_false_iff_not.2 (by have := ho.out; omega)
  have e1 : IntKind.i64.wrap ((o : Int) - 1) = (k : Int) := by have := ho.out; rw [IntWalk.i64_in _ (by omega)]; omega
  have e2 : IntKind.i64.wrap (3 * (k : Int)) = ((3 * k : Nat) : Int) := by rw [IntWalk.i64_in _ (by omega)]; omega
  obtain ⟨z, hz⟩ : ∃ z, z = 3 * k + 3 := ⟨_, rfl⟩
  have hz2 : z ≤ 51 := by omega
  have hz3 : 3 * k ≤ z := by omega
  have e3 : IntKind.i64.wrap (3 * (o : Int)) = (z : Int) := by have := ho.out; rw [IntWalk.i64_in _ (by omega)]; omega
  have HZ := Lib.hid hz
  clear hz
  go_enter Tryd.func11, Tryd.ntmps11
  go_wp2
  go_loopw [3] (fun v wr => ∃ m x, m ≤ 3 ∧ v = .string x ∧ x = allT.extract (3 * k) (3 * k + m) ∧ allB3 k m = true ∧ wr = w) (fun v _ => strLen v)
  case atStart =>
    refine ⟨3, _, Nat.le_refl _, rfl, by rw [← HZ.out]; rfl, ?_, rfl⟩
    unfold allB3
    rw [List.all_eq_true]
    intro i hi
    rw [decide_eq_true_iff]
    intro hm
    simp at hi
    omega
  case round =>
    obtain ⟨m, x, hm, rfl, hx, hall, rfl⟩ := hrel
    have hA : allT.size = 51 := rfl
    have hsz : x.size = m := by rw [hx, ByteArray.size_extract, hA]; omega
    have HX := Lib.hid hx
    have HALL := Lib.hid hall
    clear hx hall hA
    rcases Nat.eq_zero_or_pos m with rfl | hpos
    · go_wp2
      go_ret
      exact ⟨ret_str (HX.out.trans ((allT_txt hk (Nat.zero_le _) HALL.out (.inl rfl)).trans (congrArg txt ho.out.symm))), rfl⟩
    · obtain ⟨j, rfl⟩ : ∃ j, m = j + 1 := ⟨m - 1, by omega⟩
      have hj : j < x.size := by omega
      have hj2 : (j : Int) < x.size := by omega
      have hp : decide ((0 : Int) < x.size) = true := decide_eq_true_iff.2 (by omega)
      have hp2 : decide (0 < x.size) = true := decide_eq_true_iff.2 (by omega)
      have hj3 : (j : Int) ≤ x.size := by omega
      have hA : allT.size = 51 := rfl
      have eb : bt x j = bt allT (3 * k + j) := by rw [HX.out]; exact bt_extract _ _ _ _ (by rw [hA]; omega) (by omega)
      have e4 : IntKind.i64.wrap ((x.size : Int) - 1) = (j : Int) := by rw [IntWalk.i64_in _ (by omega)]; omega
      have EB := Lib.hid eb
      have HS := Lib.hid hsz
      clear hsz eb hA
      by_cases e : (bt x j).toNat = 32
      · have t1 := by_yes hj e
        have HE := Lib.hid e
        clear e
        go_wp2
        go_roundw
        case rel =>
          refine ⟨j, _, by omega, rfl, ?_, allB3_step HALL.out (by rw [← EB.out]; exact HE.out), by first | rfl | trivial⟩
          rw [HX.out, ByteArray.extract_extract]
          congr 1
          omega
        case measure => simp [strLen]; have := HS.out; omega
      · have t1 := by_no hj e
        have HE := Lib.hid e
        clear e
        go_wp2
        go_ret
        exact ⟨ret_str (HX.out.trans ((allT_txt hk hm HALL.out (.inr (by rw [Nat.add_sub_cancel, ← EB.out]; exact HE.out))).trans (congrArg txt ho.out.symm))), rfl⟩
/-- The document's own Text. -/
theorem reftext_any (op : Int) (w : World) :
    Calls Tryd.prog 11 #[.int .i64 op] w fun e w' => e = .returned (.string (txt op.toNat)) ∧ w' = w := by
  by_cases h : 1 ≤ op ∧ op ≤ 17
  · obtain ⟨o, rfl⟩ := Int.eq_ofNat_of_zero_le (a := op) (by omega)
    rw [Int.toNat_natCast]
    exact reftext_in (o - 1) o (by omega) (Lib.hid (by omega)) w
  · have ht : txt op.toNat = ⟨#[]⟩ := txt_out (by omega)
    rw [ht]
    clear ht
    by_cases g : op < 1
    · have hd : decide (op < 1) = true := by simpa using g
      clear h
      go_enter Tryd.func11, Tryd.ntmps11
      go_wp2
      go_ret
      exact ⟨rfl, rfl⟩
    · have h2 : 17 < op := by omega
      have hd : decide (op < 1) = false := by simpa using g
      have hd2 : decide (17 < op) = true := by simpa using h2
      clear h
      go_enter Tryd.func11, Tryd.ntmps11
      go_wp2
      go_ret
      exact ⟨rfl, rfl⟩
end Go.Proofs.YtlfmpjneopeadaaDoor

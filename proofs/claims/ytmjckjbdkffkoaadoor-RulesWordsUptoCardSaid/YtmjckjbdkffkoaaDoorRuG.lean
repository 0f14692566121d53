/- What the forms of layer 12 (rules) answer at the rows of a plain command: Program, List, AndOr, Pipe, Simple and Word. Condition: rows of at most a million pieces. -/
import Derived.Test.YtmjckjbdkffkoaaDoorRuF
namespace Go.Proofs.YtmjckjbdkffkoaaDoor
open Go.RowKit
set_option linter.unusedVariables false

/-- The signs of Words. -/
def wordsT : ByteArray := ⟨#[33, 123, 125, 105, 116, 101, 108, 102, 119, 100, 103, 114, 107, 99, 122, 120]⟩
/-- A row that is of its Kind's form, of those that a plain command has. -/
def FmOk (kind : Int) (row : ByteArray) : Prop :=
  (kind = 1 ∧ row = ⟨#[76]⟩) ∨ (kind = 2 ∧ row = ⟨#[65]⟩) ∨ (kind = 3 ∧ row = ⟨#[73]⟩) ∨ (kind = 4 ∧ row = ⟨#[83]⟩) ∨ (kind = 5 ∧ 1 ≤ row.size ∧ ∀ i, i < row.size → bt row i = 87) ∨ (kind = 7 ∧ row.size = 1 ∧ 0 ≤ Lib.indexByte wordsT.data.toList (bt row 0))
section
variable (w : World)
set_option maxRecDepth 100000 in
set_option maxHeartbeats 2000000 in
theorem list_at (b : Nat) (h : Rdw w b ⟨#[65]⟩ 0) :
    Calls Tryd.prog 99 #[.pointer (some ⟨b, 0, none⟩)] w fun r w' => r = .returned (.bool true) ∧ StF b ⟨#[65]⟩ 1 w w' := by
  have HON := Lib.hid (one_yes w b ⟨#[65]⟩ ⟨#[65]⟩ 0 h (by decide) (by decide))
  clear h
  go_enter Tryd.func99, Tryd.ntmps99
  go_wp2_with fail
  refine HON.out.mono ?_
  rintro r w1 ⟨rfl, hst⟩
  have HST := Lib.hid (show StF b ⟨#[65]⟩ 1 w w1 from hst)
  clear hst HON
  go_wp2_with fail
  go_loopw [6] (fun v6 wr => StF b ⟨#[65]⟩ 1 w wr) (fun _ _ => 0)
  case atStart => exact HST.out
  case round =>
    have HS := Lib.hid hrel
    have HON := Lib.hid (one_no wr b ⟨#[65]⟩ ⟨#[59, 38, 110]⟩ 1 hrel.1 (by decide) (by decide) (by decide))
    clear hrel
    go_wp2_with fail
    refine HON.out.mono ?_
    rintro r w2 ⟨rfl, hst⟩
    have HST2 := Lib.hid hst
    clear hst
    go_wp2
    go_ret
    exact ⟨rfl, HS.out.trans HST2.out⟩
set_option maxRecDepth 100000 in
set_option maxHeartbeats 2000000 in
theorem andOr_at (b : Nat) (h : Rdw w b ⟨#[73]⟩ 0) :
    Calls Tryd.prog 100 #[.pointer (some ⟨b, 0, none⟩)] w fun r w' => r = .returned (.bool true) ∧ StF b ⟨#[73]⟩ 1 w w' := by
  have HON := Lib.hid (one_yes w b ⟨#[73]⟩ ⟨#[73]⟩ 0 h (by decide) (by decide))
  clear h
  go_enter Tryd.func100, Tryd.ntmps100
  go_wp2_with fail
  refine HON.out.mono ?_
  rintro r w1 ⟨rfl, hst⟩
  have HST := Lib.hid (show StF b ⟨#[73]⟩ 1 w w1 from hst)
  clear hst HON
  go_wp2_with fail
  go_loopw [3, 6] (fun v3 v6 wr => v3 = .bool true ∧ StF b ⟨#[73]⟩ 1 w wr) (fun _ _ _ => 0)
  case atStart => exact ⟨rfl, HST.out⟩
  case round =>
    obtain ⟨rfl, hrel⟩ := hrel
    have HS := Lib.hid hrel
    have HON := Lib.hid (one_no wr b ⟨#[73]⟩ ⟨#[97, 111]⟩ 1 hrel.1 (by decide) (by decide) (by decide))
    clear hrel
    go_wp2_with fail
    refine HON.out.mono ?_
    rintro r w2 ⟨rfl, hst⟩
    have HST2 := Lib.hid hst
    clear hst
    go_wp2
    go_ret
    exact ⟨rfl, HS.out.trans HST2.out⟩
theorem take_L (b : Nat) (h : Rdw w b ⟨#[76]⟩ 0) : Calls Tryd.prog 98 #[.pointer (some ⟨b, 0, none⟩), .string ⟨#[110, 42, 76, 63]⟩] w fun r w' => r = .returned (.bool true) ∧ StF b ⟨#[76]⟩ 1 w w' :=
  take_to w b ⟨#[76]⟩ ⟨#[110, 42, 76, 63]⟩ 0 1 h (by decide) (by decide) (.star (p := ⟨#[110]⟩) (b := ⟨#[42, 76, 63]⟩) (g := ⟨#[76, 63]⟩) (e := 0) (by decide) (by decide +kernel) (by decide +kernel) (by decide +kernel) (by decide) (by decide +kernel) (Nat.le_refl _) (by decide) (fun i h1 h2 => by omega) (by decide +kernel) (by decide)
    (.opt (p := ⟨#[76]⟩) (b := ⟨#[63]⟩) (g := ⟨#[]⟩) (e := 1) (by decide) (by decide +kernel) (by decide +kernel) (by decide +kernel) (by decide +kernel) (by decide) (by decide +kernel) (.inl ⟨by decide +kernel, rfl⟩) (by decide) (.nil (by decide))))
theorem take_S (b : Nat) (h : Rdw w b ⟨#[83]⟩ 0) : Calls Tryd.prog 98 #[.pointer (some ⟨b, 0, none⟩), .string ⟨#[33, 63]⟩] w fun r w' => r = .returned (.bool true) ∧ StF b ⟨#[83]⟩ 0 w w' :=
  take_to w b ⟨#[83]⟩ ⟨#[33, 63]⟩ 0 0 h (by decide) (by decide)
    (.opt (p := ⟨#[33]⟩) (b := ⟨#[63]⟩) (g := ⟨#[]⟩) (e := 0) (by decide) (by decide +kernel) (by decide +kernel) (by decide +kernel) (by decide +kernel) (by decide) (by decide +kernel) (.inr ⟨by decide +kernel, rfl, by decide⟩) (by decide) (.nil (by decide)))
set_option maxRecDepth 100000 in
set_option maxHeartbeats 2000000 in
theorem pipe_at (b : Nat) (h : Rdw w b ⟨#[83]⟩ 0) :
    Calls Tryd.prog 101 #[.pointer (some ⟨b, 0, none⟩)] w fun r w' => r = .returned (.bool true) ∧ StF b ⟨#[83]⟩ 1 w w' := by
  have HTK := Lib.hid (take_S w b h)
  clear h
  go_enter Tryd.func101, Tryd.ntmps101
  go_wp2_with fail
  refine HTK.out.mono ?_
  rintro r w1 ⟨rfl, hst⟩
  have HON := Lib.hid (one_yes w1 b ⟨#[83]⟩ ⟨#[83, 66, 85, 70, 72, 79, 67, 78]⟩ 0 hst.1 (by decide) (by decide +kernel))
  have HST := Lib.hid hst
  clear hst HTK
  go_wp2_with fail
  refine HON.out.mono ?_
  rintro r w2 ⟨rfl, hst⟩
  have HST2 := Lib.hid (HST.out.trans (show StF b ⟨#[83]⟩ 1 w1 w2 from hst))
  clear hst HON
  go_wp2_with fail
  go_loopw [3, 10] (fun v3 v10 wr => v3 = .bool true ∧ StF b ⟨#[83]⟩ 1 w wr) (fun _ _ _ => 0)
  case atStart => exact ⟨rfl, HST2.out⟩
  case round =>
    obtain ⟨rfl, hrel⟩ := hrel
    have HS := Lib.hid hrel
    have HON := Lib.hid (one_no wr b ⟨#[83]⟩ ⟨#[124]⟩ 1 hrel.1 (by decide) (by decide) (by decide))
    clear hrel
    go_wp2_with fail
    refine HON.out.mono ?_
    rintro r w2 ⟨rfl, hst⟩
    have HST3 := Lib.hid hst
    clear hst
    go_wp2
    go_ret
    exact ⟨rfl, HS.out.trans HST3.out⟩
set_option maxRecDepth 100000 in
set_option maxHeartbeats 2000000 in
theorem simple_at (b : Nat) (row : ByteArray) (h : Rdw w b row 0) (hs : row.size ≤ 1000000) (h1 : 1 ≤ row.size) (hw : ∀ i, i < row.size → bt row i = 87) :
    Calls Tryd.prog 102 #[.pointer (some ⟨b, 0, none⟩)] w fun r w' => r = .returned (.bool true) ∧ StF b row row.size w w' := by
  have o1 : oneP row ⟨#[88, 82]⟩ 0 = false := by unfold oneP; rw [hw 0 (by omega)]; simp; intro _; decide
  have o2 : oneP row ⟨#[87]⟩ 0 = true := by unfold oneP; rw [hw 0 (by omega)]; simp; exact ⟨by omega, by decide⟩
  have o3 : ∀ i, 1 ≤ i → i < row.size → oneP row ⟨#[87, 82]⟩ i = true := fun i _ hi => by unfold oneP; rw [hw i hi]; simp; exact ⟨hi, by decide⟩
  have o4 : oneP row ⟨#[87, 82]⟩ row.size = false := by unfold oneP; simp
  have HA := Lib.hid (any_to w b row ⟨#[88, 82]⟩ 0 0 h hs (Nat.le_refl _) (by omega) (fun i g1 g2 => by omega) o1)
  have O2 := Lib.hid o2
  have O3 := Lib.hid o3
  have O4 := Lib.hid o4
  clear h hw o1 o2 o3 o4
  go_enter Tryd.func102, Tryd.ntmps102
  go_wp2_with fail
  refine HA.out.mono ?_
  rintro r w1 ⟨⟨v, rfl⟩, hst⟩
  have HON := Lib.hid (one_yes w1 b row ⟨#[87]⟩ 0 hst.1 hs O2.out)
  have HST := Lib.hid hst
  clear hst
  go_wp2_with fail
  refine HON.out.mono ?_
  rintro r w2 ⟨rfl, hst⟩
  have HAN := Lib.hid (any_to w2 b row ⟨#[87, 82]⟩ 1 row.size hst.1 hs h1 (Nat.le_refl _) O3.out O4.out)
  have HST2 := Lib.hid (HST.out.trans hst)
  clear hst
  go_wp2_with fail
  refine HAN.out.mono ?_
  rintro r w3 ⟨⟨v3, rfl⟩, hst⟩
  have HST3 := Lib.hid (HST2.out.trans hst)
  clear hst
  go_wp2
  go_ret
  exact ⟨rfl, HST3.out⟩
set_option maxRecDepth 100000 in
set_option maxHeartbeats 2000000 in
theorem form_at (b : Nat) (kind : Int) (row : ByteArray) (h : Rdw w b row 0) (hs : row.size ≤ 1000000) (hk : FmOk kind row) :
    Calls Tryd.prog 87 #[.pointer (some ⟨b, 0, none⟩), .int .i64 kind] w fun r w' => r = .returned (.bool true) ∧ StF b row row.size w w' := by
  rcases hk with ⟨rfl, rfl⟩ | ⟨rfl, rfl⟩ | ⟨rfl, rfl⟩ | ⟨rfl, rfl⟩ | ⟨rfl, h1, hw⟩ | ⟨rfl, h1, hw⟩
  · have HC := Lib.hid (take_L w b h)
    clear h
    go_enter Tryd.func87, Tryd.ntmps87
    go_wp2_with fail
    refine HC.out.mono ?_
    rintro r w1 ⟨rfl, hst⟩
    have HST := Lib.hid hst
    clear hst
    go_wp2
    go_ret
    exact ⟨rfl, HST.out⟩
  · have HC := Lib.hid (list_at w b h)
    clear h
    go_enter Tryd.func87, Tryd.ntmps87
    go_wp2_with fail
    refine HC.out.mono ?_
    rintro r w1 ⟨rfl, hst⟩
    have HST := Lib.hid hst
    clear hst
    go_wp2
    go_ret
    exact ⟨rfl, HST.out⟩
  · have HC := Lib.hid (andOr_at w b h)
    clear h
    go_enter Tryd.func87, Tryd.ntmps87
    go_wp2_with fail
    refine HC.out.mono ?_
    rintro r w1 ⟨rfl, hst⟩
    have HST := Lib.hid hst
    clear hst
    go_wp2
    go_ret
    exact ⟨rfl, HST.out⟩
  · have HC := Lib.hid (pipe_at w b h)
    clear h
    go_enter Tryd.func87, Tryd.ntmps87
    go_wp2_with fail
    refine HC.out.mono ?_
    rintro r w1 ⟨rfl, hst⟩
    have HST := Lib.hid hst
    clear hst
    go_wp2
    go_ret
    exact ⟨rfl, HST.out⟩
  · have HC := Lib.hid (simple_at w b row h hs h1 hw)
    clear h
    clear h1 hw
    go_enter Tryd.func87, Tryd.ntmps87
    go_wp2_with fail
    refine HC.out.mono ?_
    rintro r w1 ⟨rfl, hst⟩
    have HST := Lib.hid hst
    clear hst
    go_wp2
    go_ret
    exact ⟨rfl, HST.out⟩
  · have HC := Lib.hid (show Calls Tryd.prog 103 #[.pointer (some ⟨b, 0, none⟩), .string wordsT] w fun e w' => e = .returned (.bool true) ∧ StF b row row.size w w' from by have := one_yes w b row wordsT 0 h hs (by unfold oneP; simp; exact ⟨by omega, hw⟩); rwa [Nat.zero_add, ← h1] at this)
    clear h
    clear h1 hw
    go_enter Tryd.func87, Tryd.ntmps87
    go_wp2_with fail
    refine HC.out.mono ?_
    rintro r w1 ⟨rfl, hst⟩
    have HST := Lib.hid hst
    clear hst
    go_wp2
    go_ret
    exact ⟨rfl, HST.out⟩
theorem rdw_new (w : World) (row : ByteArray) : Rdw (w.alloc (.cells #[.string row, .int .i64 0] 111)) w.heap.size row 0 := Blk.new w _ _
set_option maxRecDepth 100000 in
set_option maxHeartbeats 2000000 in
theorem formed_at (kind : Int) (row : ByteArray) (hs : row.size ≤ 1000000) (hk : FmOk kind row) :
    Calls Tryd.prog 70 #[.int .i64 kind, .string row] w fun r w' => r = .returned (.bool true) ∧ Below w.heap.size w w' := by
  have HFM := Lib.hid (form_at (w.alloc (.cells #[.string row, .int .i64 0] 111)) w.heap.size kind row (rdw_new w row) hs hk)
  have HBL := Lib.hid (show Below w.heap.size w (w.alloc (.cells #[.string row, .int .i64 0] 111)) from (Below.refl _ w).alloc (Nat.le_refl _) _)
  clear hk
  go_enter Tryd.func70, Tryd.ntmps70
  go_wp2_with fail
  refine HFM.out.mono ?_
  rintro r w1 ⟨rfl, hst⟩
  have c1 := hst.1.cell 1
  simp only [List.getElem?_toArray, List.getElem?_cons_zero, List.getElem?_cons_succ] at c1
  have HST := Lib.hid hst
  clear hst
  go_wp2
  go_ret
  exact ⟨by simp, HBL.out.trans (HST.out.2.below HBL.out.size (fun b hb => by omega))⟩
end
end Go.Proofs.YtmjckjbdkffkoaaDoor

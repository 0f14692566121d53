/- What begin of layer 11 (tree) writes into a builder; the library's table of powers of ten. Condition: right trees of at most 40 nodes; the table lies as start-up lays it. -/
import Derived.Test.YtdiolfniaiojfaaDoorTrBd
import Derived.Test.YtdiolfniaiojfaaDoorTrDg
import Derived.Lib.LaidTab
import Derived.Shelf.Strconv.Itoa4
namespace Go.Proofs.YtdiolfniaiojfaaDoor
open Go.RowKit Go.Shelf Go.Lib
set_option linter.unusedVariables false

/-- The table of powers of ten lies. -/
def Tb (W : World) : Prop := Lib.TabIs Tryd.prog W "internal/strconv.uint64pow10" .u64 Lib.pow10Tab
theorem tb_some : (Tryd.prog.globalNamed "internal/strconv.uint64pow10").isSome = true := by kernel_rfl
theorem tb_glob : ∃ g, Tryd.prog.globalNamed "internal/strconv.uint64pow10" = some g := Option.isSome_iff_exists.1 tb_some
theorem Tb.kept {W W' : World} (h : Tb W) (hk : ∀ g, Tryd.prog.globalNamed "internal/strconv.uint64pow10" = some g → W'.heap[g]? = W.heap[g]?) : Tb W' := by
  unfold Tb Lib.TabIs World.var? at h ⊢
  obtain ⟨g, hg⟩ := tb_glob
  rw [hg] at h ⊢
  simp only [Option.bind_some] at h ⊢
  rw [hk g hg]
  exact h
theorem Tb.lt {W : World} (h : Tb W) : ∀ g, Tryd.prog.globalNamed "internal/strconv.uint64pow10" = some g → g < W.heap.size := by
  intro g hg
  unfold Tb Lib.TabIs World.var? at h
  rw [hg] at h
  simp only [Option.bind_some] at h
  rcases Nat.lt_or_ge g W.heap.size with g' | g'
  · exact g'
  · rw [Array.getElem?_eq_none g'] at h
    cases h
theorem Tb.below {W W' : World} {n : Nat} (h : Tb W) (hb : Below n W W') (hn : ∀ g, Tryd.prog.globalNamed "internal/strconv.uint64pow10" = some g → g < n) : Tb W' := h.kept (fun g hg => hb.block g (hn g hg))
theorem below_grow (W : World) (k : Nat) (os : Array Obj) : Below W.heap.size W (Go.Sort.grow (W.drewN k) os) := by
  refine ⟨rfl, rfl, rfl, ?_, fun i hi => ?_⟩
  · simp [Go.Sort.grow, World.drewN]
  · simp only [Go.Sort.grow, World.drewN]
    rw [Array.getElem?_append_left hi]
section
variable (w : World)
theorem itoa_any (v : Nat) (hv : v < 9223372036854775808) (hT : Tb w) : Calls Tryd.prog 22 #[.int .i64 (v : Int)] w fun e w' => e = .returned (.string (lst (decDigits v))) ∧ Below w.heap.size w w' := by
  refine (Tryd.strconv_Itoa (v : Int) (by omega) (by omega) w hT).mono ?_
  rintro e w' ⟨rfl, k, os, rfl⟩
  refine ⟨?_, below_grow _ _ _⟩
  unfold Lib.itoa
  rw [if_neg (by omega)]
  rfl
end
theorem cells_app (a b : List UInt8) : Lib.strCells (lst (a ++ b)) = Lib.strCells (lst a) ++ Lib.strCells (lst b) := by simp [Lib.strCells, lst]
theorem cells_one (c : UInt8) : Lib.strCells (lst [c]) = [.int .u8 (c.toNat : Int)] := by simp [Lib.strCells, lst]
theorem cells_len (a : List UInt8) : (Lib.strCells (lst a)).length = a.length := by rw [Lib.strCells_length, lst_size]
/-- What is kept from one world to another: all but the builder's two blocks. -/
def BdF (B : Nat) (v : Value) (w : World) (v' : Value) (w' : World) : Prop := Frm (fun k => k = B ∨ v.ownBlock = some k) w w' ∧ ∀ g, v'.ownBlock = some g → v.ownBlock = some g ∨ w.heap.size ≤ g
theorem BdF.refl (B : Nat) (v : Value) (w : World) : BdF B v w v w := ⟨Frm.refl _ _, fun g h => .inl h⟩
theorem BdF.trans {B : Nat} {v v1 v2 : Value} {w w1 w2 : World} (h : BdF B v w v1 w1) (g : BdF B v1 w1 v2 w2) : BdF B v w v2 w2 :=
  ⟨h.1.trans g.1 (fun i hi hh => by
    rcases hh with rfl | e
    · exact .inl rfl
    · rcases h.2 i e with e' | e'
      · exact .inr e'
      · omega), fun k hk => by
    rcases g.2 k hk with e | e
    · exact h.2 k e
    · have := h.1.size
      exact .inr (by omega)⟩
theorem BdF.world {B : Nat} {v : Value} {w w1 : World} (hb : Below w.heap.size w w1) : BdF B v w v w1 := ⟨Frm.of_below hb, fun g h => .inl h⟩
theorem BdF.below {B : Nat} {v v' : Value} {x : List Value} {w w' : World} (h : BdF B v w v' w') (hb : BldV B v x w) : Below B w w' :=
  h.1.below (Nat.le_of_lt hb.lt) (fun k hk => by
    rcases hk with rfl | e
    · exact Nat.le_refl _
    · exact own_ge hb.2 k e)
/-- Another block than the builder's two. -/
theorem BdF.box {B : Nat} {v v' : Value} {w w' : World} {k : Nat} {cs : Array Value} {t : TypeId} (h : BdF B v w v' w') (hb : Blk w k cs t) (hk : k ≠ B) (hv : v.ownBlock ≠ some k) : Blk w' k cs t :=
  hb.frm h.1 (fun hh => by
    rcases hh with e | e
    · exact hk e
    · exact hv e)
theorem let_idx (K : Nat) (h1 : 1 ≤ K) (h2 : K ≤ 18) : (({ data := #[80, 76, 65, 73, 83, 88, 87, 82, 66, 85, 70, 72, 79, 67, 84, 78, 69, 77] } : ByteArray)[K - 1]'(by show K - 1 < 18; omega)).toNat = (bt letL K).toNat := by
  have : ∀ j, j < 18 → (bt { data := #[80, 76, 65, 73, 83, 88, 87, 82, 66, 85, 70, 72, 79, 67, 84, 78, 69, 77] } j).toNat = (bt letL (j + 1)).toNat := by decide +kernel
  have h := this (K - 1) (by omega)
  rw [show K - 1 + 1 = K from by omega, bt_eq (by show K - 1 < 18; omega)] at h
  exact h
section
variable (w : World)
set_option maxRecDepth 100000 in
set_option maxHeartbeats 8000000 in
theorem begin_any (B : Nat) (v : Value) (x : List UInt8) (ao : Option Addr) (n cap i : Nat) (nv : Nat → Nd) (hv : BldV B v (Lib.strCells (lst x)) w) (hrow : NRow w ao n nv) (hT : Tb w) (hTB : ∀ g, Tryd.prog.globalNamed "internal/strconv.uint64pow10" = some g → g < B) (hi : i < n) (hn : n ≤ 40) (hN : Nums nv n) (hx : x.length ≤ 100000) :
    Calls Tryd.prog 12 #[.pointer (some ⟨B, 0, none⟩), .slice ao n cap, .int .i64 (i : Int)] w fun e w' => e = .returned (.tuple #[]) ∧ ∃ v', BldV B v' (Lib.strCells (lst (x ++ (sepL nv i ++ hdL (nv i))))) w' ∧ BdF B v w v' w' := by
  obtain ⟨K, F, T, k1, k2, k3, f1, f2, t1, t2⟩ := hN i hi
  obtain ⟨b, off, rfl, hbw, c0, c1, c2, c3⟩ := hrow i hi
  obtain ⟨U, hU⟩ : ∃ U, (nv i).u = U := ⟨_, rfl⟩
  rw [k1] at c0
  rw [f1] at c1
  rw [t1] at c2
  rw [hU] at c3
  have HK := Lib.hid k1
  have HFF := Lib.hid f1
  have HTT := Lib.hid t1
  have HUU := Lib.hid hU
  have g1 := dd_len 18 F (by omega)
  have g2 := dd_len 18 T (by omega)
  have l0 : (0 : Int) ≤ (i : Int) := by omega
  have l1 : (i : Int) < (n : Int) := by omega
  obtain ⟨W0, hW0⟩ : ∃ X, w.alloc (.cells #[.int .i64 (K : Int), .int .i64 (F : Int), .int .i64 (T : Int), .int .i64 U] 27) = X := ⟨_, rfl⟩
  have bz0 : Blk W0 w.heap.size #[.int .i64 (K : Int), .int .i64 (F : Int), .int .i64 (T : Int), .int .i64 U] 27 := by rw [← hW0]; exact Blk.new _ _ _
  have hB00 : Below w.heap.size w W0 := by rw [← hW0]; exact (Below.refl _ _).alloc (Nat.le_refl _) _
  have HB0 : Hid (BdF B v w v W0) := Lib.hid (BdF.world hB00)
  have hv0 := hv.frm (Frm.of_below (p := fun _ => False) hB00) id (fun _ _ => id)
  have HV0 := Lib.hid hv0
  have HT0 := Lib.hid (hT.below hB00 (hT.lt))
  have HZL : Hid (w.heap.size ≠ B) := Lib.hid (by have := hv.lt; omega)
  have HZB : Hid (v.ownBlock ≠ some w.heap.size) := Lib.hid (fun e => by have := own_lt hv.2 _ e; omega)
  have HW0E := Lib.hid hW0
  obtain ⟨z, hz⟩ : ∃ z, w.heap.size = z := ⟨_, rfl⟩
  have HZ := Lib.hid hz
  rw [hz] at bz0 HZL HZB
  clear hv hT hrow hW0 hB00 k1 f1 t1 hU hz hbw
  have bz := bz0
  have q1 : IntKind.i64.wrap ((i : Int) - 1) = (i : Int) - 1 := IntWalk.i64_in _ (by omega)
  by_cases h0 : i = 0
  · have t0 : ((i : Int) == 0) = true := by simp; omega
    have HSEP : Hid (sepL nv i = []) := Lib.hid (by unfold sepL; rw [if_pos h0])
    clear h0
    go_enter Tryd.func12, Tryd.ntmps12
    go_wp2_with fail
    rw [HW0E.out, HZ.out]
    have hvc := hv0
    have hF := BdF.refl B v W0

    have kb := hF.box bz HZL.out (fun e => HZB.out e)
    have d0 := kb.cell 0
    have d1 := kb.cell 1
    have d2 := kb.cell 2
    have hw := wbyte_own W0 B v _ (({ data := #[80, 76, 65, 73, 83, 88, 87, 82, 66, 85, 70, 72, 79, 67, 84, 78, 69, 77] } : ByteArray)[K - 1]'(by show K - 1 < 18; omega)).toNat hvc (by rw [cells_len]; omega)
    have hle := let_idx K k2 k3
    rw [hle] at hw
    rw [hle]
    have HW := Lib.hid hw
    have HF := Lib.hid hF
    clear hw hvc hF kb hle
    refine HW.out.mono ?_
    rintro e w2 ⟨rfl, v2, hv2, hF2, hg2⟩
    rw [← cells_one, ← cells_app] at hv2
    have hF := HF.out.trans ⟨hF2, hg2⟩
    have kb := hF.box bz HZL.out (fun e => HZB.out e)
    have d1 := kb.cell 1
    have d2 := kb.cell 2
    have hi1 := itoa_any w2 F f2 (HT0.out.below (hF.below HV0.out) hTB)
    have HI := Lib.hid hi1
    have HF := Lib.hid hF
    have HV2 := Lib.hid hv2
    clear hi1 hF hv2 hF2 hg2 kb d0 HW
    go_wp2_with fail
    refine HI.out.mono ?_
    rintro e w3 ⟨rfl, hb3⟩
    have hv3 := HV2.out.frm (Frm.of_below (p := fun _ => False) hb3) id (fun _ _ => id)
    have hF := HF.out.trans (BdF.world hb3)
    have hs3 := wstring_own w3 B v2 _ (lst (decDigits F)) hv3 (by rw [cells_len, List.length_append]; simp; omega) (by rw [lst_size]; omega)
    have HS := Lib.hid hs3
    have HF := Lib.hid hF
    clear hs3 hF hv3 hb3 HI HV2
    go_wp2_with fail
    refine HS.out.mono ?_
    rintro e w4 ⟨rfl, v4, hv4, hF4, hg4⟩
    rw [← cells_app] at hv4
    have hF := HF.out.trans ⟨hF4, hg4⟩
    have kb := hF.box bz HZL.out (fun e => HZB.out e)
    have d2 := kb.cell 2
    have hw5 := wbyte_own w4 B v4 _ 45 hv4 (by rw [cells_len, List.length_append, List.length_append]; simp; omega)
    have HW := Lib.hid hw5
    have HF := Lib.hid hF
    clear hw5 hF hv4 hF4 hg4 kb d1 HS
    go_wp2_with fail
    refine HW.out.mono ?_
    rintro e w5 ⟨rfl, v5, hv5, hF5, hg5⟩
    have h45 : ([.int .u8 45] : List Value) = Lib.strCells (lst [45]) := by rw [cells_one]; rfl
    rw [h45, ← cells_app] at hv5
    have hF := HF.out.trans ⟨hF5, hg5⟩
    have kb := hF.box bz HZL.out (fun e => HZB.out e)
    have d2 := kb.cell 2
    have hi1 := itoa_any w5 T t2 (HT0.out.below (hF.below HV0.out) hTB)
    have HI := Lib.hid hi1
    have HF := Lib.hid hF
    have HV5 := Lib.hid hv5
    clear hi1 hF hv5 hF5 hg5 kb HW h45
    go_wp2_with fail
    refine HI.out.mono ?_
    rintro e w6 ⟨rfl, hb6⟩
    have hv6 := HV5.out.frm (Frm.of_below (p := fun _ => False) hb6) id (fun _ _ => id)
    have hF := HF.out.trans (BdF.world hb6)
    have hs6 := wstring_own w6 B v5 _ (lst (decDigits T)) hv6 (by rw [cells_len, List.length_append, List.length_append, List.length_append]; simp; omega) (by rw [lst_size]; omega)
    have HS := Lib.hid hs6
    have HF := Lib.hid hF
    clear hs6 hF hv6 hb6 HI HV5
    go_wp2_with fail
    refine HS.out.mono ?_
    rintro e w7 ⟨rfl, v7, hv7, hF7, hg7⟩
    rw [← cells_app] at hv7
    have hF := HF.out.trans ⟨hF7, hg7⟩
    have HV7 := Lib.hid hv7
    have HF := Lib.hid hF
    clear hF hv7 hF7 hg7 HS
    go_wp2_with fail
    go_end0
    refine ⟨rfl, v7, ?_, HB0.out.trans HF.out⟩
    have h1 := HV7.out
    have e9 : x ++ [bt letL K] ++ decDigits F ++ [45] ++ decDigits T = x ++ (sepL nv i ++ hdL (nv i)) := by
      rw [HSEP.out]
      unfold hdL
      rw [HK.out, HFF.out, HTT.out]
      simp [List.append_assoc]
    rw [← e9]
    exact h1
  · have t0 : ((i : Int) == 0) = false := by simp; omega
    by_cases hu : U = (i : Int) - 1
    · have t1' : (U == (i : Int) - 1) = true := by simp; exact hu
      have HU := Lib.hid hu
      clear hu
      go_enter Tryd.func12, Tryd.ntmps12
      go_wp2_with fail
      rw [HW0E.out, HZ.out]
      have hw0 := wbyte_own W0 B v _ 40 hv0 (by rw [cells_len]; omega)
      have HW0 := Lib.hid hw0
      clear hw0
      refine HW0.out.mono ?_
      rintro e w1 ⟨rfl, v1, hv1, hF1, hg1⟩
      have hcc : ([.int .u8 40] : List Value) = Lib.strCells (lst [40]) := by rw [cells_one]; rfl
      rw [hcc, ← cells_app] at hv1
      have hvc := hv1
      have hF : BdF B v W0 v1 w1 := ⟨hF1, hg1⟩
      have hx1 : (x ++ [40]).length ≤ 100001 := by rw [List.length_append]; simp; omega
      have HSEP : Hid (sepL nv i = [40]) := Lib.hid (by unfold sepL; rw [if_neg h0, if_pos (by rw [HUU.out, HU.out]; omega)])
      clear hv1 hF1 hg1 hcc HW0

      have kb := hF.box bz HZL.out (fun e => HZB.out e)
      have d0 := kb.cell 0
      have d1 := kb.cell 1
      have d2 := kb.cell 2
      go_wp2_with fail
      have hw := wbyte_own w1 B v1 _ (({ data := #[80, 76, 65, 73, 83, 88, 87, 82, 66, 85, 70, 72, 79, 67, 84, 78, 69, 77] } : ByteArray)[K - 1]'(by show K - 1 < 18; omega)).toNat hvc (by rw [cells_len]; omega)
      have hle := let_idx K k2 k3
      rw [hle] at hw
      rw [hle]
      have HW := Lib.hid hw
      have HF := Lib.hid hF
      clear hw hvc hF kb hle
      refine HW.out.mono ?_
      rintro e w2 ⟨rfl, v2, hv2, hF2, hg2⟩
      rw [← cells_one, ← cells_app] at hv2
      have hF := HF.out.trans ⟨hF2, hg2⟩
      have kb := hF.box bz HZL.out (fun e => HZB.out e)
      have d1 := kb.cell 1
      have d2 := kb.cell 2
      have hi1 := itoa_any w2 F f2 (HT0.out.below (hF.below HV0.out) hTB)
      have HI := Lib.hid hi1
      have HF := Lib.hid hF
      have HV2 := Lib.hid hv2
      clear hi1 hF hv2 hF2 hg2 kb d0 HW
      go_wp2_with fail
      refine HI.out.mono ?_
      rintro e w3 ⟨rfl, hb3⟩
      have hv3 := HV2.out.frm (Frm.of_below (p := fun _ => False) hb3) id (fun _ _ => id)
      have hF := HF.out.trans (BdF.world hb3)
      have hs3 := wstring_own w3 B v2 _ (lst (decDigits F)) hv3 (by rw [cells_len, List.length_append]; simp; omega) (by rw [lst_size]; omega)
      have HS := Lib.hid hs3
      have HF := Lib.hid hF
      clear hs3 hF hv3 hb3 HI HV2
      go_wp2_with fail
      refine HS.out.mono ?_
      rintro e w4 ⟨rfl, v4, hv4, hF4, hg4⟩
      rw [← cells_app] at hv4
      have hF := HF.out.trans ⟨hF4, hg4⟩
      have kb := hF.box bz HZL.out (fun e => HZB.out e)
      have d2 := kb.cell 2
      have hw5 := wbyte_own w4 B v4 _ 45 hv4 (by rw [cells_len, List.length_append, List.length_append]; simp; omega)
      have HW := Lib.hid hw5
      have HF := Lib.hid hF
      clear hw5 hF hv4 hF4 hg4 kb d1 HS
      go_wp2_with fail
      refine HW.out.mono ?_
      rintro e w5 ⟨rfl, v5, hv5, hF5, hg5⟩
      have h45 : ([.int .u8 45] : List Value) = Lib.strCells (lst [45]) := by rw [cells_one]; rfl
      rw [h45, ← cells_app] at hv5
      have hF := HF.out.trans ⟨hF5, hg5⟩
      have kb := hF.box bz HZL.out (fun e => HZB.out e)
      have d2 := kb.cell 2
      have hi1 := itoa_any w5 T t2 (HT0.out.below (hF.below HV0.out) hTB)
      have HI := Lib.hid hi1
      have HF := Lib.hid hF
      have HV5 := Lib.hid hv5
      clear hi1 hF hv5 hF5 hg5 kb HW h45
      go_wp2_with fail
      refine HI.out.mono ?_
      rintro e w6 ⟨rfl, hb6⟩
      have hv6 := HV5.out.frm (Frm.of_below (p := fun _ => False) hb6) id (fun _ _ => id)
      have hF := HF.out.trans (BdF.world hb6)
      have hs6 := wstring_own w6 B v5 _ (lst (decDigits T)) hv6 (by rw [cells_len, List.length_append, List.length_append, List.length_append]; simp; omega) (by rw [lst_size]; omega)
      have HS := Lib.hid hs6
      have HF := Lib.hid hF
      clear hs6 hF hv6 hb6 HI HV5
      go_wp2_with fail
      refine HS.out.mono ?_
      rintro e w7 ⟨rfl, v7, hv7, hF7, hg7⟩
      rw [← cells_app] at hv7
      have hF := HF.out.trans ⟨hF7, hg7⟩
      have HV7 := Lib.hid hv7
      have HF := Lib.hid hF
      clear hF hv7 hF7 hg7 HS
      go_wp2_with fail
      go_end0
      refine ⟨rfl, v7, ?_, HB0.out.trans HF.out⟩
      have h1 := HV7.out
      have e9 : x ++ [40] ++ [bt letL K] ++ decDigits F ++ [45] ++ decDigits T = x ++ (sepL nv i ++ hdL (nv i)) := by
        rw [HSEP.out]
        unfold hdL
        rw [HK.out, HFF.out, HTT.out]
        simp [List.append_assoc]
      rw [← e9]
      exact h1

    · have t1' : (U == (i : Int) - 1) = false := by simp; exact hu
      go_enter Tryd.func12, Tryd.ntmps12
      go_wp2_with fail
      rw [HW0E.out, HZ.out]
      have hw0 := wbyte_own W0 B v _ 32 hv0 (by rw [cells_len]; omega)
      have HW0 := Lib.hid hw0
      clear hw0
      refine HW0.out.mono ?_
      rintro e w1 ⟨rfl, v1, hv1, hF1, hg1⟩
      have hcc : ([.int .u8 32] : List Value) = Lib.strCells (lst [32]) := by rw [cells_one]; rfl
      rw [hcc, ← cells_app] at hv1
      have hvc := hv1
      have hF : BdF B v W0 v1 w1 := ⟨hF1, hg1⟩
      have hx1 : (x ++ [32]).length ≤ 100001 := by rw [List.length_append]; simp; omega
      have HSEP : Hid (sepL nv i = [32]) := Lib.hid (by unfold sepL; rw [if_neg h0, if_neg (by rw [HUU.out]; omega)])
      clear hv1 hF1 hg1 hcc HW0

      have kb := hF.box bz HZL.out (fun e => HZB.out e)
      have d0 := kb.cell 0
      have d1 := kb.cell 1
      have d2 := kb.cell 2
      go_wp2_with fail
      have hw := wbyte_own w1 B v1 _ (({ data := #[80, 76, 65, 73, 83, 88, 87, 82, 66, 85, 70, 72, 79, 67, 84, 78, 69, 77] } : ByteArray)[K - 1]'(by show K - 1 < 18; omega)).toNat hvc (by rw [cells_len]; omega)
      have hle := let_idx K k2 k3
      rw [hle] at hw
      rw [hle]
      have HW := Lib.hid hw
      have HF := Lib.hid hF
      clear hw hvc hF kb hle
      refine HW.out.mono ?_
      rintro e w2 ⟨rfl, v2, hv2, hF2, hg2⟩
      rw [← cells_one, ← cells_app] at hv2
      have hF := HF.out.trans ⟨hF2, hg2⟩
      have kb := hF.box bz HZL.out (fun e => HZB.out e)
      have d1 := kb.cell 1
      have d2 := kb.cell 2
      have hi1 := itoa_any w2 F f2 (HT0.out.below (hF.below HV0.out) hTB)
      have HI := Lib.hid hi1
      have HF := Lib.hid hF
      have HV2 := Lib.hid hv2
      clear hi1 hF hv2 hF2 hg2 kb d0 HW
      go_wp2_with fail
      refine HI.out.mono ?_
      rintro e w3 ⟨rfl, hb3⟩
      have hv3 := HV2.out.frm (Frm.of_below (p := fun _ => False) hb3) id (fun _ _ => id)
      have hF := HF.out.trans (BdF.world hb3)
      have hs3 := wstring_own w3 B v2 _ (lst (decDigits F)) hv3 (by rw [cells_len, List.length_append]; simp; omega) (by rw [lst_size]; omega)
      have HS := Lib.hid hs3
      have HF := Lib.hid hF
      clear hs3 hF hv3 hb3 HI HV2
      go_wp2_with fail
      refine HS.out.mono ?_
      rintro e w4 ⟨rfl, v4, hv4, hF4, hg4⟩
      rw [← cells_app] at hv4
      have hF := HF.out.trans ⟨hF4, hg4⟩
      have kb := hF.box bz HZL.out (fun e => HZB.out e)
      have d2 := kb.cell 2
      have hw5 := wbyte_own w4 B v4 _ 45 hv4 (by rw [cells_len, List.length_append, List.length_append]; simp; omega)
      have HW := Lib.hid hw5
      have HF := Lib.hid hF
      clear hw5 hF hv4 hF4 hg4 kb d1 HS
      go_wp2_with fail
      refine HW.out.mono ?_
      rintro e w5 ⟨rfl, v5, hv5, hF5, hg5⟩
      have h45 : ([.int .u8 45] : List Value) = Lib.strCells (lst [45]) := by rw [cells_one]; rfl
      rw [h45, ← cells_app] at hv5
      have hF := HF.out.trans ⟨hF5, hg5⟩
      have kb := hF.box bz HZL.out (fun e => HZB.out e)
      have d2 := kb.cell 2
      have hi1 := itoa_any w5 T t2 (HT0.out.below (hF.below HV0.out) hTB)
      have HI := Lib.hid hi1
      have HF := Lib.hid hF
      have HV5 := Lib.hid hv5
      clear hi1 hF hv5 hF5 hg5 kb HW h45
      go_wp2_with fail
      refine HI.out.mono ?_
      rintro e w6 ⟨rfl, hb6⟩
      have hv6 := HV5.out.frm (Frm.of_below (p := fun _ => False) hb6) id (fun _ _ => id)
      have hF := HF.out.trans (BdF.world hb6)
      have hs6 := wstring_own w6 B v5 _ (lst (decDigits T)) hv6 (by rw [cells_len, List.length_append, List.length_append, List.length_append]; simp; omega) (by rw [lst_size]; omega)
      have HS := Lib.hid hs6
      have HF := Lib.hid hF
      clear hs6 hF hv6 hb6 HI HV5
      go_wp2_with fail
      refine HS.out.mono ?_
      rintro e w7 ⟨rfl, v7, hv7, hF7, hg7⟩
      rw [← cells_app] at hv7
      have hF := HF.out.trans ⟨hF7, hg7⟩
      have HV7 := Lib.hid hv7
      have HF := Lib.hid hF
      clear hF hv7 hF7 hg7 HS
      go_wp2_with fail
      go_end0
      refine ⟨rfl, v7, ?_, HB0.out.trans HF.out⟩
      have h1 := HV7.out
      have e9 : x ++ [32] ++ [bt letL K] ++ decDigits F ++ [45] ++ decDigits T = x ++ (sepL nv i ++ hdL (nv i)) := by
        rw [HSEP.out]
        unfold hdL
        rw [HK.out, HFF.out, HTT.out]
        simp [List.append_assoc]
      rw [← e9]
      exact h1
end
end Go.Proofs.YtdiolfniaiojfaaDoor

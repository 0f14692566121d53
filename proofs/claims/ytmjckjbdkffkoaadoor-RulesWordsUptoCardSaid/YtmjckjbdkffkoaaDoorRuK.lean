/- What familyOf and kids of layer 12 (rules) return: each node's first kid and next sister; a node's kids. Condition: at most ten thousand nodes whose Ups are those of a tree. -/
import Derived.Test.YtmjckjbdkffkoaaDoorRuP
import Derived.Test.YtmjckjbdkffkoaaDoorTrM
import Derived.Test.YtmjckjbdkffkoaaDoorApI
import Derived.Laws.MakeOwn
import Derived.Laws.OwnMore
namespace Go.Proofs.YtmjckjbdkffkoaaDoor
open Go.RowKit
set_option linter.unusedVariables false

/-- A row told by a function. -/
def rg (n : Nat) (f : Nat → Nat) : List Nat := (List.range n).map f
theorem rg_len (n : Nat) (f : Nat → Nat) : (rg n f).length = n := by simp [rg]
theorem rg_at {n : Nat} {f : Nat → Nat} {j : Nat} (h : j < n) : (rg n f)[j]? = some (f j) := by
  unfold rg
  rw [List.getElem?_map, List.getElem?_range h]
  rfl
theorem rg_set {n : Nat} {f g : Nat → Nat} {k x : Nat} (h : ∀ j, j < n → g j = if j = k then x else f j) : (rg n f).set k x = rg n g := by
  apply List.ext_getElem?
  intro j
  rw [List.getElem?_set]
  by_cases hj : j < n
  · rw [rg_at hj, rg_at hj, rg_len, h j hj]
    by_cases hk : k = j
    · subst hk; simp [hj]
    · rw [if_neg hk, if_neg (fun e => hk e.symm)]
  · rw [List.getElem?_eq_none (by rw [rg_len]; omega), List.getElem?_eq_none (by rw [rg_len]; omega)]
    split
    · rename_i e; subst e; rw [if_neg (by rw [rg_len]; omega)]
    · rfl
theorem rg_congr {n : Nat} {f g : Nat → Nat} (h : ∀ j, j < n → f j = g j) : rg n f = rg n g := by
  unfold rg
  exact List.map_congr_left (fun j hj => h j (List.mem_range.1 hj))
theorem rg_zero (n : Nat) : madeCells #[.int .i64 0] n = (cellsO (rg n (fun _ => 0))).toArray := by
  apply Array.toList_inj.1
  rw [toList_madeCells_one]
  apply List.ext_getElem?
  intro j
  unfold cellsO rg
  rw [List.map_map, List.getElem?_map]
  by_cases hj : j < n
  · rw [List.getElem?_range hj, List.getElem?_replicate, if_pos hj]; rfl
  · rw [List.getElem?_eq_none (l := List.range n) (by simpa using hj), List.getElem?_replicate, if_neg hj]; rfl
theorem rgc_at {n : Nat} {f : Nat → Nat} {j : Nat} (h : j < n) : (cellsO (rg n f)).toArray[j]? = some (.int .i64 (f j : Int)) := by
  rw [List.getElem?_toArray]
  unfold cellsO
  rw [List.getElem?_map, rg_at h]
  rfl
theorem rgc_set {n : Nat} {f g : Nat → Nat} {k x : Nat} (h : ∀ j, j < n → g j = if j = k then x else f j) : (cellsO (rg n f)).toArray.setIfInBounds k (.int .i64 (x : Int)) = (cellsO (rg n g)).toArray := by
  rw [List.setIfInBounds_toArray]
  congr 1
  rw [← rg_set h]
  unfold cellsO
  rw [List.map_set]

def eldF (nv : Nat → Nd) (n i u : Nat) : Nat := fstK nv n (u : Int) i
def nxtF (nv : Nat → Nd) (n i k : Nat) : Nat := if i ≤ k then fstK nv n (nv k).u (k + 1) else 0
/-- How memory lies within familyOf: all nodes from i on are gone through. -/
structure FmS (W : World) (R eb xb fb : Nat) (nv : Nat → Nd) (n i : Nat) (wx : World) : Prop where
  r : Blk wx R #[.slice none 0 0, .slice none 0 0] 80
  f : Blk wx fb #[.slice (some ⟨eb, 0, none⟩) n n, .slice (some ⟨xb, 0, none⟩) n n] 80
  e : Blk wx eb (cellsO (rg n (eldF nv n i))).toArray 3
  x : Blk wx xb (cellsO (rg n (nxtF nv n i))).toArray 3
  ne : eb ≠ xb ∧ fb ≠ eb ∧ fb ≠ xb ∧ R ≠ eb ∧ R ≠ xb ∧ R ≠ fb
  ge : W.heap.size ≤ R ∧ W.heap.size ≤ eb ∧ W.heap.size ≤ xb ∧ W.heap.size ≤ fb
  b : Below W.heap.size W wx
def FmR (W : World) (R eb xb fb : Nat) (nv : Nat → Nd) (n : Nat) (v4 : Value) (wx : World) : Prop :=
  ∃ i : Nat, i + 1 ≤ n ∧ v4 = .int .i64 (i : Int) ∧ FmS W R eb xb fb nv n (i + 1) wx
theorem al4 (w : World) (O0 O1 O2 O3 : Obj) : (((((w.alloc O0).alloc O1).alloc O2).alloc O3).drew).heap[w.heap.size]? = some O0 ∧ (((((w.alloc O0).alloc O1).alloc O2).alloc O3).drew).heap[w.heap.size + 1]? = some O1 ∧ (((((w.alloc O0).alloc O1).alloc O2).alloc O3).drew).heap[w.heap.size + 1 + 1]? = some O2 ∧ (((((w.alloc O0).alloc O1).alloc O2).alloc O3).drew).heap[w.heap.size + 1 + 1 + 1]? = some O3 := by
  have h3 := World.alloc_heap_new (((w.alloc O0).alloc O1).alloc O2) O3
  have h2 := (Below.heap_alloc (((w.alloc O0).alloc O1).alloc O2) O3 _ (by simp)).trans (World.alloc_heap_new ((w.alloc O0).alloc O1) O2)
  have h1 := (Below.heap_alloc (((w.alloc O0).alloc O1).alloc O2) O3 _ (by simp)).trans ((Below.heap_alloc ((w.alloc O0).alloc O1) O2 _ (by simp)).trans (World.alloc_heap_new (w.alloc O0) O1))
  have h0 := (Below.heap_alloc (((w.alloc O0).alloc O1).alloc O2) O3 w.heap.size (by simp; omega)).trans ((Below.heap_alloc ((w.alloc O0).alloc O1) O2 w.heap.size (by simp; omega)).trans ((Below.heap_alloc (w.alloc O0) O1 w.heap.size (by simp)).trans (World.alloc_heap_new w O0)))
  simp only [World.size_alloc] at h3 h2 h1 h0
  exact ⟨h0, h1, h2, h3⟩
theorem eld_n (nv : Nat → Nd) (n : Nat) : rg n (fun _ => 0) = rg n (eldF nv n n) := rg_congr (fun j _ => (fstK_end nv (j : Int) (Nat.le_refl n)).symm)
theorem nxt_n (nv : Nat → Nd) (n : Nat) : rg n (fun _ => 0) = rg n (nxtF nv n n) := rg_congr (fun j hj => by unfold nxtF; rw [if_neg (by omega)])
theorem FmS.start (w X : World) (nv : Nat → Nd) (n : Nat) (M0 : Array Value) (hM : (cellsO (rg n (fun _ => 0))).toArray = M0) (v3 : Value) {eb xb fb : Nat} (h3 : v3 = .pointer (some ⟨fb, 0, none⟩))
    (hf : X.heap[fb]? = some (.cells #[.slice (some ⟨eb, 0, none⟩) n n, .slice (some ⟨xb, 0, none⟩) n n] 80 (0, 0))) (hr : X.heap[w.heap.size]? = some (.cells #[.slice none 0 0, .slice none 0 0] 80 (0, 0)))
    (he : X.heap[eb]? = some (.cells M0 3 (0, 0))) (hx : X.heap[xb]? = some (.cells M0 3 (0, 0))) (hne : eb ≠ xb ∧ fb ≠ eb ∧ fb ≠ xb ∧ w.heap.size ≠ eb ∧ w.heap.size ≠ xb ∧ w.heap.size ≠ fb)
    (hge : w.heap.size ≤ w.heap.size ∧ w.heap.size ≤ eb ∧ w.heap.size ≤ xb ∧ w.heap.size ≤ fb) (hb : Below w.heap.size w X) : ∃ eb xb fb, v3 = .pointer (some ⟨fb, 0, none⟩) ∧ FmS w w.heap.size eb xb fb nv n n X :=
  ⟨eb, xb, fb, h3, hr, hf, by rw [← eld_n, hM]; exact he, by rw [← nxt_n, hM]; exact hx, hne, hge, hb⟩
theorem FmS.step {W : World} {R eb xb fb : Nat} {nv : Nat → Nd} {n i : Nat} {wx wy : World} (h : FmS W R eb xb fb nv n (i + 1) wx) (h0 : 0 < i) (hi : i < n) {u : Nat} (hu : (nv i).u = (u : Int)) (hun : u < i)
    (hw : wy = (wx.setCell ⟨xb, i, none⟩ (.int .i64 (eldF nv n (i + 1) u : Int))).setCell ⟨eb, u, none⟩ (.int .i64 (i : Int)) ∨ wy = ((wx.setCell ⟨xb, i, none⟩ (.int .i64 (eldF nv n (i + 1) u : Int))).drew).setCell ⟨eb, u, none⟩ (.int .i64 (i : Int))) : FmS W R eb xb fb nv n i wy := by
  obtain ⟨n1, n2, n3, n4, n5, n6⟩ := h.ne
  obtain ⟨g1, g2, g3, g4⟩ := h.ge
  have hE : ∀ j, j < n → eldF nv n i j = if j = u then i else eldF nv n (i + 1) j := fun j hj => by
    unfold eldF
    rw [fstK_step nv (j : Int) hi, hu]
    by_cases e : j = u
    · subst e; rw [if_pos rfl, if_pos rfl]
    · rw [if_neg (by omega), if_neg e]
  have hX : ∀ j, j < n → nxtF nv n i j = if j = i then eldF nv n (i + 1) u else nxtF nv n (i + 1) j := fun j hj => by
    unfold nxtF eldF
    by_cases e : j = i
    · subst e; rw [if_pos (Nat.le_refl _), if_pos rfl, hu]
    · rw [if_neg e]
      by_cases e2 : i ≤ j
      · rw [if_pos e2, if_pos (by omega)]
      · rw [if_neg e2, if_neg (by omega)]
  have h1 := h.x.set i (.int .i64 (eldF nv n (i + 1) u : Int))
  rw [rgc_set hX] at h1
  have h2 := (h.e.other (b' := xb) i (.int .i64 (eldF nv n (i + 1) u : Int)) n1).set u (.int .i64 (i : Int))
  rw [rgc_set hE] at h2
  have hb : Below W.heap.size W ((wx.setCell ⟨xb, i, none⟩ (.int .i64 (eldF nv n (i + 1) u : Int))).setCell ⟨eb, u, none⟩ (.int .i64 (i : Int))) :=
    h.b.trans (Frm.below ((Frm.setCell (p := fun b => b = xb ∨ b = eb) (Frm.refl _ wx) i (.inl (.inl rfl)) _).setCell u (.inl (.inr rfl)) _) h.b.size (fun b hb => by omega))
  have hfin : FmS W R eb xb fb nv n i ((wx.setCell ⟨xb, i, none⟩ (.int .i64 (eldF nv n (i + 1) u : Int))).setCell ⟨eb, u, none⟩ (.int .i64 (i : Int))) :=
    ⟨(h.r.other i _ n5).other u _ n4, (h.f.other i _ n3).other u _ n2, h2, h1.other u _ (Ne.symm n1), h.ne, h.ge, hb⟩
  rcases hw with rfl | rfl
  · exact hfin
  · exact ⟨hfin.r, hfin.f, hfin.e, hfin.x, hfin.ne, hfin.ge, ⟨hb.os, hb.tape, hb.output, hb.size, hb.block⟩⟩
theorem rdo_blk {w : World} {b n : Nat} {L : List Nat} (h : Blk w b (cellsO L).toArray 3) (hn : n = L.length) : RdO w (some ⟨b, 0, none⟩) n L :=
  ⟨hn, fun i x hx => ⟨b, rfl, h.lt, (h.cell i).trans (by rw [List.getElem?_toArray]; unfold cellsO; rw [List.getElem?_map, hx]; rfl)⟩⟩
section
variable (w : World)
set_option maxRecDepth 100000 in
set_option maxHeartbeats 4000000 in
theorem family_any (ao : Option Addr) (n cap : Nat) (nv : Nat → Nd) (hrow : NRow w ao n nv) (hs : Sp nv n) (h0 : 0 < n) (hn : n ≤ 10000) :
    Calls Tryd.prog 52 #[.slice ao n cap] w fun e w' => ∃ eb xb : Nat, e = .returned (.agg #[.slice (some ⟨eb, 0, none⟩) n n, .slice (some ⟨xb, 0, none⟩) n n]) ∧ RdO w' (some ⟨eb, 0, none⟩) n (rg n (eldF nv n 1)) ∧ RdO w' (some ⟨xb, 0, none⟩) n (rg n (nxtF nv n 1)) ∧ Below w.heap.size w w' := by
  obtain ⟨i0, hi0, hz0, hs0, hb0⟩ := info_parts infoI
  have hmk0 := fun W => run_make (P := Tryd.prog) W 41 3 i0 _ Tryd.underlying41 hi0 hz0 .i64 .i64 (n : Int) (n : Int) (by omega) (Int.le_refl _) (by rw [hb0]; omega) (by omega)
  simp only [Int.toNat_natCast, hs0] at hmk0
  obtain ⟨M0, hM0⟩ : ∃ M, (cellsO (rg n (fun _ => 0))).toArray = M := ⟨_, rfl⟩
  have hmk : ∀ W, (Instr.makeSlice 41 (.int .i64 (n : Int)) (.int .i64 (n : Int))).run Tryd.prog W = .ok (.slice (some ⟨W.heap.size, 0, none⟩) n n) (W.alloc (.cells M0 3)) := by
    intro W
    rw [hmk0 W, ← hM0, ← rg_zero, Nat.mul_one]
    rfl
  have HROW := Lib.hid hrow
  have HS := Lib.hid hs
  have HM0 := Lib.hid hM0
  clear hmk0 hM0 hrow hs hi0 hz0 hs0 hb0
  go_enter Tryd.func52, Tryd.ntmps52
  go_upto_region 1 with fail
  go_cut [3] from 3 to 12 (fun v3 wx => ∃ eb xb fb, v3 = .pointer (some ⟨fb, 0, none⟩) ∧ FmS w w.heap.size eb xb fb nv n n wx)
  case first =>
    go_region
    all_goals
      go_wp2_with fail
      go_meet
      case rel =>
        first
        | refine FmS.start w _ nv n M0 HM0.out _ rfl (al4 w _ _ _ _).2.1 (al4 w _ _ _ _).1 ?_ ?_ ?_ ?_ ?_
        | refine FmS.start w _ nv n M0 HM0.out _ rfl (al4 w _ _ _ _).2.2.1 (al4 w _ _ _ _).1 ?_ ?_ ?_ ?_ ?_
        | refine FmS.start w _ nv n M0 HM0.out _ rfl (al4 w _ _ _ _).2.2.2 (al4 w _ _ _ _).1 ?_ ?_ ?_ ?_ ?_
        · first
          | exact (al4 w _ _ _ _).2.1
          | exact (al4 w _ _ _ _).2.2.1
          | exact (al4 w _ _ _ _).2.2.2
        · first
          | exact (al4 w _ _ _ _).2.1
          | exact (al4 w _ _ _ _).2.2.1
          | exact (al4 w _ _ _ _).2.2.2
        · omega
        · omega
        · exact (((((Below.refl _ w).alloc (Nat.le_refl _) _).alloc (by simp) _).alloc (by simp; omega) _).alloc (by simp; omega) _).drew
  case rest =>
    obtain ⟨eb, xb, fb, rfl, hS⟩ := hcut
    obtain ⟨R, hR⟩ : ∃ R, w.heap.size = R := ⟨_, rfl⟩
    rw [hR] at hS ⊢
    have HR := Lib.hid hR
    have HSS := Lib.hid hS
    have e0 : IntKind.i64.wrap ((n : Int) - 1) = (n : Int) - 1 := IntWalk.i64_in _ (by omega)
    clear hS hR hmk
    go_wp2
    clear e0
    go_loopw [4] (fun v4 wr => FmR w R eb xb fb nv n v4 wr) (fun v4 _ => (intOf v4).toNat)
    case atStart =>
      refine ⟨n - 1, by omega, by rw [show ((n - 1 : Nat) : Int) = (n : Int) - 1 from by omega], ?_⟩
      rw [show n - 1 + 1 = n from by omega]
      exact HSS.out
    case round =>
      obtain ⟨i, hi, rfl, hI⟩ := hrel
      by_cases hp : 0 < i
      · have hp' : (0 : Int) < (i : Int) := by omega
        obtain ⟨u, hu, hui, _⟩ := HS.out.2 i hp (by omega)
        have hrow := HROW.out.below (hI.b)
        obtain ⟨b, off, rfl, hbw, c0, c1, c2, c3⟩ := hrow i (by omega)
        rw [hu] at c3
        have q0 : (0 : Int) ≤ (i : Int) := by omega
        have q1 : (i : Int) < (n : Int) := by omega
        have q2 : (0 : Int) ≤ (u : Int) := by omega
        have q3 : (u : Int) < (i : Int) := by omega
        have q4 : (u : Int) < (n : Int) := by omega
        have d2 : decide ((0 : Int) ≤ (u : Int)) = true := by simp
        have d3 : decide (u < i) = true := by simp; omega
        have f0 := hI.f.cell 0
        have f1 := hI.f.cell 1
        simp only [List.getElem?_toArray, List.getElem?_cons_zero, List.getElem?_cons_succ] at f0 f1
        obtain ⟨ev, hev⟩ : ∃ ev, eldF nv n (i + 1) u = ev := ⟨_, rfl⟩
        have ce := (hI.e.cell u).trans (rgc_at (f := eldF nv n (i + 1)) (j := u) (by omega))
        rw [hev] at ce
        have cx := (hI.x.cell i).trans (rgc_at (f := nxtF nv n (i + 1)) (j := i) (by omega))
        have fx := hI.x.frozen i
        have fe := hI.e.frozen u
        have hn1 := hI.ne.1
        have HI := Lib.hid hI
        have HU := Lib.hid hu
        have HEV := Lib.hid hev
        have e1 : IntKind.i64.wrap ((i : Int) - 1) = (i : Int) - 1 := IntWalk.i64_in _ (by omega)
        clear hI hu hev c0 c1 c2 hrow
        go_upto_region 7 with fail
        go_region
        have g0 := ((HI.out.f.other i (.int .i64 (ev : Int)) HI.out.ne.2.2.1).drew).cell 0
        have g1 := ((HI.out.e.other i (.int .i64 (ev : Int)) HI.out.ne.1).drew).cell u
        have g2 := ((HI.out.e.other i (.int .i64 (ev : Int)) HI.out.ne.1).drew).frozen u
        rw [rgc_at (f := eldF nv n (i + 1)) (j := u) (by omega), HEV.out] at g1
        simp only [List.getElem?_toArray, List.getElem?_cons_zero] at g0
        have hst := FmS.step HI.out hp (by omega) HU.out hui (.inr rfl)
        rw [HEV.out] at hst
        have HST := Lib.hid hst
        clear f0 f1 ce cx fx fe hst
        go_wp2
        go_roundw
        case rel => exact ⟨i - 1, by omega, by rw [show ((i - 1 : Nat) : Int) = (i : Int) - 1 from by omega], by rw [show i - 1 + 1 = i from by omega]; exact HST.out⟩
        case measure => simp [intOf]; omega
      · obtain rfl : i = 0 := by omega
        have f0 := hI.f.cell 0
        have f1 := hI.f.cell 1
        have r0 := hI.r.frozen 0
        have r1 := hI.r.frozen 1
        have r2 := hI.r.cell 0
        have r3 := hI.r.cell 1
        simp only [List.getElem?_toArray, List.getElem?_cons_zero, List.getElem?_cons_succ] at f0 f1 r2 r3
        have HI := Lib.hid hI
        clear hI
        go_wp2
        have hF := (HI.out.b).trans (Frm.below ((Frm.setCell (p := fun b => b = R) (Frm.refl _ wr) 0 (.inl rfl) (.slice (some ⟨eb, 0, none⟩) n n)).setCell 1 (.inl rfl) (.slice (some ⟨xb, 0, none⟩) n n)) HI.out.b.size (fun b hb => by have := HI.out.ge.1; omega))
        have k0 := (HI.out.r.set 0 (.slice (some ⟨eb, 0, none⟩) n n)).set 1 (.slice (some ⟨xb, 0, none⟩) n n)
        have u0 := k0.cell 0
        have u1 := k0.cell 1
        simp at u0 u1
        have hE := (HI.out.e.other (b' := R) 0 (.slice (some ⟨eb, 0, none⟩) n n) (Ne.symm HI.out.ne.2.2.2.1)).other (b' := R) 1 (.slice (some ⟨xb, 0, none⟩) n n) (Ne.symm HI.out.ne.2.2.2.1)
        have hX := (HI.out.x.other (b' := R) 0 (.slice (some ⟨eb, 0, none⟩) n n) (Ne.symm HI.out.ne.2.2.2.2.1)).other (b' := R) 1 (.slice (some ⟨xb, 0, none⟩) n n) (Ne.symm HI.out.ne.2.2.2.2.1)
        refine bodyPost_ret (v := .agg #[.slice (some ⟨eb, 0, none⟩) n n, .slice (some ⟨xb, 0, none⟩) n n]) (by simp [results, Tryd.results52, go_sem, u0, u1]) rfl ?_
        exact ⟨eb, xb, rfl, rdo_blk hE (rg_len _ _).symm, rdo_blk hX (rg_len _ _).symm, hF⟩
def msK (n : Nat) (v : Value) : Nat := if intOf v = 0 then 0 else n + 1 - (intOf v).toNat
theorem msK_int (n k : Nat) : msK n (.int .i64 (k : Int)) = if k = 0 then 0 else n + 1 - k := by
  show (if ((k : Int) = 0) then 0 else n + 1 - (k : Int).toNat) = _
  by_cases h : k = 0
  · subst h; rfl
  · rw [if_neg (by omega), if_neg h, Int.toNat_natCast]
def KsR (nv : Nat → Nd) (n i : Nat) (base : Nat) (w : World) (v4 v5 : Value) (wr : World) : Prop :=
  ∃ (k : Nat) (A : List Nat), v5 = .int .i64 (k : Int) ∧ wr.ownsRow base 3 1 v4 A.length (cellsO A) ∧ Below w.heap.size w wr ∧ base ≤ wr.heap.size ∧ ((k = 0 ∧ kidK nv n (i : Int) 1 = A) ∨ (0 < k ∧ k < n ∧ (nv k).u = (i : Int) ∧ kidK nv n (i : Int) 1 = A ++ k :: kidK nv n (i : Int) (k + 1)))
theorem ks_next {nv : Nat → Nd} {n i k : Nat} {A : List Nat} (h : kidK nv n (i : Int) 1 = A ++ k :: kidK nv n (i : Int) (k + 1)) (hu : (nv k).u = (i : Int)) (hk : 0 < k) : (nxtF nv n 1 k = 0 ∧ kidK nv n (i : Int) 1 = A ++ [k]) ∨ (k < nxtF nv n 1 k ∧ nxtF nv n 1 k < n ∧ (nv (nxtF nv n 1 k)).u = (i : Int) ∧ kidK nv n (i : Int) 1 = A ++ [k] ++ nxtF nv n 1 k :: kidK nv n (i : Int) (nxtF nv n 1 k + 1)) := by
  have hx : nxtF nv n 1 k = fstK nv n (i : Int) (k + 1) := by unfold nxtF; rw [if_pos (by omega), hu]
  rw [hx]
  rcases kid_fst nv n (i : Int) _ (k + 1) rfl (by omega) with ⟨h1, h2⟩ | ⟨h1, h2, h3, h4⟩
  · rw [h1] at h
    exact .inl ⟨h2, h⟩
  · refine .inr ⟨by omega, h3, h4, ?_⟩
    rw [h1] at h
    rw [h, List.append_assoc]
    rfl
set_option maxRecDepth 100000 in
set_option maxHeartbeats 4000000 in
theorem fkids_any (eb xb n : Nat) (nv : Nat → Nd) (hE : RdO w (some ⟨eb, 0, none⟩) n (rg n (eldF nv n 1))) (hX : RdO w (some ⟨xb, 0, none⟩) n (rg n (nxtF nv n 1))) (hn : n ≤ 10000) (i : Nat) (hi : i < n) :
    Calls Tryd.prog 53 #[.agg #[.slice (some ⟨eb, 0, none⟩) n n, .slice (some ⟨xb, 0, none⟩) n n], .int .i64 (i : Int)] w fun e w' => ∃ v, e = .returned v ∧ w'.ownsRow w.heap.size 3 1 v (kidK nv n (i : Int) 1).length (cellsO (kidK nv n (i : Int) 1)) ∧ Below w.heap.size w w' := by
  have hB1 : Below w.heap.size w (w.alloc (.cells #[.slice (some ⟨eb, 0, none⟩) n n, .slice (some ⟨xb, 0, none⟩) n n] 80)) := (Below.refl _ w).alloc (Nat.le_refl _) _
  have k1 := Blk.new w #[.slice (some ⟨eb, 0, none⟩) n n, .slice (some ⟨xb, 0, none⟩) n n] 80
  have hz1 : (w.alloc (.cells #[.slice (some ⟨eb, 0, none⟩) n n, .slice (some ⟨xb, 0, none⟩) n n] 80)).heap.size = w.heap.size + 1 := by simp
  have hlen := kidK_len nv n (i : Int) (n - 1) 1 rfl
  have HE := Lib.hid hE
  have HX := Lib.hid hX
  have q0 : (0 : Int) ≤ (i : Int) := by omega
  have q1 : (i : Int) < (n : Int) := by omega
  go_enter Tryd.func53, Tryd.ntmps53
  go_upto_region 1 with fail
  obtain ⟨W1, hW1⟩ : ∃ X, w.alloc (.cells #[.slice (some ⟨eb, 0, none⟩) n n, .slice (some ⟨xb, 0, none⟩) n n] 80) = X := ⟨_, rfl⟩
  rw [hW1] at hB1 k1 hz1 ⊢
  clear hW1 hE hX
  obtain ⟨fb, hfb⟩ : ∃ fb, w.heap.size = fb := ⟨_, rfl⟩
  have HFB := Lib.hid hfb
  rw [hfb] at k1 hz1 ⊢
  clear hfb
  obtain ⟨ob, e1, _, ce⟩ := (HE.out.below hB1).cells i _ (rg_at hi)
  obtain rfl : eb = ob := by simpa using e1
  obtain ⟨ev, hev⟩ : ∃ ev, eldF nv n 1 i = ev := ⟨_, rfl⟩
  rw [hev] at ce
  have f0 := k1.cell 0
  have f1 := k1.cell 1
  simp only [List.getElem?_toArray, List.getElem?_cons_zero, List.getElem?_cons_succ] at f0 f1
  have HK1 := Lib.hid k1
  have HB1 := Lib.hid hB1
  have HEV := Lib.hid hev
  have HLEN := Lib.hid hlen
  have HZ1 := Lib.hid hz1
  clear k1 hB1 hev hlen e1 hz1
  go_wp2
  go_loopw [4, 5] (fun v4 v5 wr => KsR nv n i (fb + 1) W1 v4 v5 wr) (fun _ v5 _ => msK n v5)
  case atStart =>
    refine ⟨ev, [], rfl, World.ownsRow_nil _ _ _ _, Below.refl _ _, by have := HZ1.out; omega, ?_⟩
    have hev : fstK nv n (i : Int) 1 = ev := HEV.out
    rcases kid_fst nv n (i : Int) _ 1 rfl (by omega) with ⟨h1, h2⟩ | ⟨h1, h2, h3, h4⟩
    · rw [hev] at h2
      exact .inl ⟨h2, h1⟩
    · rw [hev] at h1 h2 h3 h4
      exact .inr ⟨by omega, h3, h4, h1⟩
  case round =>
    obtain ⟨k, A, rfl, hO, hB, hbase, hk⟩ := hrel
    obtain ⟨oa, oc, rfl⟩ := own_slice hO
    obtain ⟨z, hz⟩ : ∃ z, A.length = z := ⟨_, rfl⟩
    rw [hz] at hO ⊢
    rcases hk with ⟨rfl, hk⟩ | ⟨hk0, hkn, hku, hk⟩
    · have HO := Lib.hid hO
      have HZ := Lib.hid hz
      have HB := Lib.hid hB
      have HKK := Lib.hid hk
      clear hO hz hB hk hbase
      go_wp2
      go_ret
      refine ⟨_, rfl, ?_, HB1.out.trans (HB.out.mono HB1.out.size)⟩
      rw [HKK.out, HZ.out]
      exact owns_base HO.out (fun g hg => by have := own_ge HO.out g hg; have := HFB.out; omega)
    · have hkl : z + 1 ≤ 10000 := by
        have h1 := HLEN.out
        rw [hk, List.length_append, List.length_cons] at h1
        omega
      have hBw := HB1.out.trans (hB.mono HB1.out.size)
      obtain ⟨ob, e1, _, cx⟩ := (HX.out.below hBw).cells k _ (rg_at hkn)
      obtain rfl : xb = ob := by simpa using e1
      obtain ⟨nx, hnx⟩ : ∃ nx, nxtF nv n 1 k = nx := ⟨_, rfl⟩
      rw [hnx] at cx
      have f2 := (HK1.out.below hB).cell 1
      simp only [List.getElem?_toArray, List.getElem?_cons_zero, List.getElem?_cons_succ] at f2
      have p0 : (0 : Int) ≤ (k : Int) := by omega
      have p1 : (k : Int) < (n : Int) := by omega
      have p2 : (0 : Int) < (k : Int) := by omega
      have hnext := ks_next hk hku hk0
      rw [hnx] at hnext
      have HO := Lib.hid hO
      have HZ := Lib.hid hz
      have HB := Lib.hid hB
      have HNEXT := Lib.hid hnext
      have HBS := Lib.hid hbase
      have HXL := Lib.hid (show xb < w.heap.size by
        obtain ⟨ob, e1, hl, _⟩ := HX.out.cells k _ (rg_at hkn)
        obtain rfl : xb = ob := by simpa using e1
        exact hl)
      have hnn : fb ≠ xb := by have := HXL.out; have := HFB.out; omega
      clear hO hz hB hk hbase hnext hnx e1 hBw hku
      go_wp2_with (at_builtin; go_must (refine wpl_app_gen rfl _ _ 41 3 1 8 _ rfl Tryd.underlying41 infoI rfl (by omega) (by omega) (fb + 1) (.slice oa z oc) z (cellsO A) rfl (own_allocI HO.out _) _ 1 [.int .i64 (k : Int)] rfl (src_oneI _ _ _) rfl (by simp [Value.oneCell']) (by omega) (by rw [World.size_alloc]; have := HBS.out; omega) (z + 1) rfl ?_); rintro oa3 c3 W6 how hgr hob; go_must (have hFx := (Frm.of_below (p := fun b => (Value.slice oa z oc).ownBlock = some b) ((Below.refl _ wr).alloc (Nat.le_refl _) (.cells #[.int .i64 (k : Int)] 3))).grown hgr (fun b hb => .inl hb); have hge := own_ge HO.out; have f3 := (hFx.cell (a := ⟨fb, 1, none⟩) (by have := HBS.out; dsimp only; omega) (fun hb => by have := hge _ hb; dsimp only at this; omega)).trans f2; have cx3 := (hFx.cell (a := ⟨xb, k, none⟩) (by have := HBS.out; have := HXL.out; have := HFB.out; dsimp only; omega) (fun hb => by have := hge _ hb; have := HXL.out; have := HFB.out; dsimp only at *; omega)).trans cx))
      have hz1 : (A ++ [k]).length = z + 1 := by rw [List.length_append, HZ.out]; rfl
      have hs6 := hFx.size
      have hb6 : Below W1.heap.size W1 W6 := HB.out.trans (hFx.below HB.out.size (fun b hb => by have := own_ge HO.out b hb; have := HZ1.out; omega))
      refine ⟨⟨nx, A ++ [k], rfl, by rw [hz1, cellsO_append]; exact how, hb6, by have := HBS.out; omega, ?_⟩, ?_⟩
      · rcases HNEXT.out with ⟨h1, h2⟩ | ⟨h1, h2, h3, h4⟩
        · exact .inl ⟨h1, h2⟩
        · exact .inr ⟨by omega, h2, h3, h4⟩
      · rw [msK_int, msK_int, if_neg (by omega : ¬ k = 0)]
        rcases HNEXT.out with ⟨h1, h2⟩ | ⟨h1, h2, h3, h4⟩
        · rw [if_pos h1]
          omega
        · rw [if_neg (by omega)]
          omega
end
end Go.Proofs.YtmjckjbdkffkoaaDoor

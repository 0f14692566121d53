/- A node of a tree over leaves as rules of layer 12 holds it in memory; what the signs ahead of a kid yield. Condition: at most ten thousand leaves of at most a million bytes each. -/
import Derived.RangeFuncCalls
import Derived.RangeFuncNested
import Derived.RangeFuncLeaves
import Derived.Shelf.RegionOpen
import Derived.Test.YtmjckjbdkffkoaaDoorRuS
import Derived.Test.YtmjckjbdkffkoaaDoorTrZ
namespace Go.Proofs.YtmjckjbdkffkoaaDoor
open Go.RowKit Go.Shelf
set_option linter.unusedVariables false
attribute [local go_sem] Oper.semAt_some

/-- So many leaves can be read in a row. -/
def LfRow (w : World) (ao : Option Addr) (n : Nat) (lv : Nat → Lf) : Prop :=
  ∀ i, i < n → ∃ b off, ao = some ⟨b, off, none⟩ ∧ b < w.heap.size ∧ w.cell? ⟨b, off + i * 4, none⟩ = some (.int .i64 (lv i).k) ∧ w.cell? ⟨b, off + i * 4 + 1, none⟩ = some (.string (lv i).s) ∧ w.cell? ⟨b, off + i * 4 + 2, none⟩ = some (.int .i64 (lv i).f) ∧ w.cell? ⟨b, off + i * 4 + 3, none⟩ = some (.int .i64 (lv i).t)
theorem LfRow.kept {w w' : World} {ao : Option Addr} {n : Nat} {lv : Nat → Lf} (h : LfRow w ao n lv) (hs : w.heap.size ≤ w'.heap.size) (hc : ∀ b off, ao = some ⟨b, off, none⟩ → b < w.heap.size → w'.heap[b]? = w.heap[b]?) : LfRow w' ao n lv := fun i hi => by
  obtain ⟨b, off, h1, h2, c0, c1, c2, c3⟩ := h i hi
  have hcc : ∀ o, w'.cell? ⟨b, o, none⟩ = w.cell? ⟨b, o, none⟩ := fun o => World.cell?_of_block (hc b off h1 h2)
  exact ⟨b, off, h1, Nat.lt_of_lt_of_le h2 hs, (hcc _).trans c0, (hcc _).trans c1, (hcc _).trans c2, (hcc _).trans c3⟩
theorem LfRow.below {w w' : World} {ao : Option Addr} {n : Nat} {lv : Nat → Lf} (h : LfRow w ao n lv) (hb : Below w.heap.size w w') : LfRow w' ao n lv := h.kept hb.size (fun b off _ h2 => hb.block b h2)
/-- A row's block, if the row isn't empty. -/
def BkOf (ao : Option Addr) (n b : Nat) : Prop := 0 < n ∧ ∃ off, ao = some ⟨b, off, none⟩
/-- A node as rules holds it: the leaves, the nodes, its number, its kids. -/
structure Vw where
  la : Option Addr
  ln : Nat
  lc : Nat
  ao : Option Addr
  n : Nat
  cap : Nat
  i : Nat
  ka : Option Addr
  kn : Nat
  kc : Nat
def Vw.cs (v : Vw) : Array Value := #[.slice v.la v.ln v.lc, .slice v.ao v.n v.cap, .int .i64 (v.i : Int), .slice v.ka v.kn v.kc]
/-- What an iterator over a node's pieces has captured. -/
def CapV (Bv : Nat) (v : Vw) (b : Nat) : Prop := b = Bv ∨ b = 1 ∨ BkOf v.la v.ln b ∨ BkOf v.ao v.n b ∨ BkOf v.ka v.kn b
/-- A view can be read: its rows, its tables, and all that a sign wants. -/
structure VwOk (w : World) (v : Vw) (lv : Nat → Lf) (nv : Nat → Nd) (ks : List Nat) : Prop where
  l : LfRow w v.la v.ln lv
  a : NRow w v.ao v.n nv
  k : RdO w v.ka v.kn ks
  tx : Tx w
  ln : v.ln ≤ 10000
  n : v.n ≤ 10000
  s : ∀ i, i < v.ln → (lv i).s.size ≤ 1000000
  i : v.i < v.n
  kl : ∀ k ∈ ks, k < v.n
theorem VwOk.below {w w' : World} {v : Vw} {lv : Nat → Lf} {nv : Nat → Nd} {ks : List Nat} (h : VwOk w v lv nv ks) (hb : Below w.heap.size w w') : VwOk w' v lv nv ks :=
  ⟨h.l.below hb, h.a.below hb, h.k.below hb, h.tx.b hb, h.ln, h.n, h.s, h.i, h.kl⟩
theorem VwOk.keptC {Bv : Nat} {w w' : World} {v : Vw} {lv : Nat → Lf} {nv : Nat → Nd} {ks : List Nat} (h : VwOk w v lv nv ks) (hs : w.heap.size ≤ w'.heap.size) (hc : ∀ b, b < w.heap.size → CapV Bv v b → w'.heap[b]? = w.heap[b]?) : VwOk w' v lv nv ks where
  l := by
    by_cases h0 : 0 < v.ln
    · exact h.l.kept hs (fun b off h1 h2 => hc b h2 (.inr (.inr (.inl ⟨h0, off, h1⟩))))
    · exact fun i hi => by omega
  a := by
    by_cases h0 : 0 < v.n
    · exact h.a.kept hs (fun b off h1 h2 => hc b h2 (.inr (.inr (.inr (.inl ⟨h0, off, h1⟩)))))
    · exact fun i hi => by omega
  k := by
    by_cases h0 : 0 < v.kn
    · exact h.k.kept hs (fun b off h1 h2 => hc b h2 (.inr (.inr (.inr (.inr ⟨h0, off, h1⟩)))))
    · refine ⟨h.k.len, fun i p hp => ?_⟩
      have := h.k.len
      have h2 := (List.getElem?_eq_some_iff.1 hp).1
      omega
  tx := ⟨Nat.lt_of_lt_of_le h.tx.1 hs, fun i hi => (World.cell?_of_block (hc 1 h.tx.1 (.inr (.inl rfl)))).trans (h.tx.2 i hi)⟩
  ln := h.ln
  n := h.n
  s := h.s
  i := h.i
  kl := h.kl
theorem VwOk.capLt {Bv : Nat} {w : World} {v : Vw} {lv : Nat → Lf} {nv : Nat → Nd} {ks : List Nat} (h : VwOk w v lv nv ks) (hb : Bv < w.heap.size) : ∀ b, CapV Bv v b → b < w.heap.size := by
  rintro b (rfl | rfl | ⟨h1, off, h2⟩ | ⟨h1, off, h2⟩ | ⟨h1, off, h2⟩)
  · exact hb
  · exact h.tx.1
  · obtain ⟨b', off', e, hl, _⟩ := h.l 0 h1
    rw [h2] at e; cases e; exact hl
  · obtain ⟨b', off', e, hl, _⟩ := h.a 0 h1
    rw [h2] at e; cases e; exact hl
  · obtain ⟨x, hx⟩ : ∃ x, ks[0]? = some x := ⟨_, List.getElem?_eq_getElem (by have := h.k.len; omega)⟩
    obtain ⟨b', e, hl, _⟩ := h.k.cells 0 x hx
    rw [h2] at e; cases e; exact hl
/-- How memory lies within pieces: at the leaf a, with Y yielded. -/
structure PcM (W : World) (Bv YB AB l : Nat) (v : Vw) (J : List Nat → (Nat → Prop) → World → Prop) (a : Nat) (Y : List Nat) (T : Nat → Prop) (wr : World) : Prop where
  hj : J Y T wr
  yb : Blk wr YB #[.func (.yield l) #[] #[]] 92
  ab : Blk wr AB #[.int .i64 (a : Int)] 3
  ty : T YB
  ta : T AB
  ne : YB ≠ AB
  tb : ∀ b, T b → W.heap.size ≤ b ∧ b < wr.heap.size
  sz : W.heap.size ≤ wr.heap.size
  cap : ∀ b, b < W.heap.size → CapV Bv v b → wr.heap[b]? = W.heap[b]?
/-- What a call within keeps. -/
def KpV (Bv AB : Nat) (v : Vw) (T : Nat → Prop) (w w' : World) : Prop := w.heap.size ≤ w'.heap.size ∧ ∀ b, b < w.heap.size → ((T b ∧ b ≠ AB) ∨ CapV Bv v b) → w'.heap[b]? = w.heap[b]?
theorem KpV.trans {Bv AB : Nat} {v : Vw} {T : Nat → Prop} {w w1 w2 : World} (h : KpV Bv AB v T w w1) (k : KpV Bv AB v T w1 w2) : KpV Bv AB v T w w2 :=
  ⟨Nat.le_trans h.1 k.1, fun b hb hh => (k.2 b (Nat.lt_of_lt_of_le hb h.1) hh).trans (h.2 b hb hh)⟩
section
variable {W : World} {Bv YB AB l : Nat} {v : Vw} {J Jx : List Nat → (Nat → Prop) → World → Prop} {a : Nat} {Y : List Nat} {T : Nat → Prop} {wr w' : World}
theorem PcM.below (h : PcM W Bv YB AB l v J a Y T wr) (hJ : Abid J) (hb : Below wr.heap.size wr w') : PcM W Bv YB AB l v J a Y T w' where
  hj := hJ _ T wr w' T h.hj (Frm.of_below hb) (fun b hb => .inl hb)
  yb := h.yb.below hb
  ab := h.ab.below hb
  ty := h.ty
  ta := h.ta
  ne := h.ne
  tb := fun b hb' => ⟨(h.tb b hb').1, Nat.lt_of_lt_of_le (h.tb b hb').2 hb.size⟩
  sz := Nat.le_trans h.sz hb.size
  cap := fun b hb' hc => (hb.block b (Nat.lt_of_lt_of_le hb' h.sz)).trans (h.cap b hb' hc)
theorem PcM.kpt {Y' : List Nat} (h : PcM W Bv YB AB l v J a Y T wr) (hk : KpT (CapV Bv v) T wr w') (hj : J Y' T w') : PcM W Bv YB AB l v J a Y' T w' where
  hj := hj
  yb := (hk.same _ h.yb.lt (.inl h.ty)).trans h.yb
  ab := (hk.same _ h.ab.lt (.inl h.ta)).trans h.ab
  ty := h.ty
  ta := h.ta
  ne := h.ne
  tb := fun b hb' => ⟨(h.tb b hb').1, Nat.lt_of_lt_of_le (h.tb b hb').2 hk.size⟩
  sz := Nat.le_trans h.sz hk.size
  cap := fun b hb' hc => (hk.same b (Nat.lt_of_lt_of_le hb' h.sz) (.inr hc)).trans (h.cap b hb' hc)
/-- The place goes on. -/
theorem PcM.at {a' : Nat} (h : PcM W Bv YB AB l v J a Y T wr) (hJ : Abid J) (hc : ∀ b, CapV Bv v b → b < W.heap.size) : PcM W Bv YB AB l v J a' Y T (wr.setCell ⟨AB, 0, none⟩ (.int .i64 (a' : Int))) where
  hj := hJ _ T wr _ T h.hj (Frm.setCell (p := T) (Frm.refl _ wr) 0 (.inl h.ta) _) (fun b hb => .inl hb)
  yb := h.yb.other 0 _ h.ne
  ab := by have := h.ab.set 0 (.int .i64 (a' : Int)); simpa using this
  ty := h.ty
  ta := h.ta
  ne := h.ne
  tb := fun b hb' => by simpa using h.tb b hb'
  sz := by simpa using h.sz
  cap := fun b hb' hc' => by
    have hA := (h.tb AB h.ta).1
    exact (Below.heap_setCell wr ⟨AB, 0, none⟩ _ b (fun e => by have e' : b = AB := e; omega)).trans (h.cap b hb' hc')
theorem PcM.vw {lv : Nat → Lf} {nv : Nat → Nd} {ks : List Nat} (h : PcM W Bv YB AB l v J a Y T wr) (hV : VwOk W v lv nv ks) : VwOk wr v lv nv ks := hV.keptC h.sz h.cap
theorem PcM.view (h : PcM W Bv YB AB l v J a Y T wr) (hb : Blk W Bv v.cs 74) : Blk wr Bv v.cs 74 := (h.cap Bv hb.lt (.inl rfl)).trans hb
theorem KpV.below (hb : Below wr.heap.size wr w') : KpV Bv AB v T wr w' := ⟨hb.size, fun b h _ => hb.block b h⟩
theorem KpV.kpt (hk : KpT (CapV Bv v) T wr w') : KpV Bv AB v T wr w' := ⟨hk.size, fun b h hh => hk.same b h (hh.imp (fun x => x.1) id)⟩
theorem KpV.at (x : Value) (hc : ¬ CapV Bv v AB) : KpV Bv AB v T wr (wr.setCell ⟨AB, 0, none⟩ x) :=
  ⟨by simp, fun b h hh => Below.heap_setCell wr ⟨AB, 0, none⟩ _ b (fun e => by
    have e' : b = AB := e
    subst e'
    rcases hh with hh | hh
    · exact hh.2 rfl
    · exact hc hh)⟩
end
/-- The place that a box of one whole number holds. -/
def atZ (w : World) (b : Nat) : Nat := match w.cell? ⟨b, 0, none⟩ with
  | some v => (intOf v).toNat
  | none => 0
theorem PcM.atZ {W : World} {Bv YB AB l : Nat} {v : Vw} {J : List Nat → (Nat → Prop) → World → Prop} {a : Nat} {Y : List Nat} {T : Nat → Prop} {wr : World} (h : PcM W Bv YB AB l v J a Y T wr) : atZ wr AB = a := by
  have c1 := h.ab.cell 0
  simp only [List.getElem?_toArray, List.getElem?_cons_zero] at c1
  unfold Go.Proofs.YtmjckjbdkffkoaaDoor.atZ
  rw [c1]
  simp [intOf]
/-- One more block of the iterator's own. -/
theorem PcM.own {W : World} {Bv YB AB l : Nat} {v : Vw} {J : List Nat → (Nat → Prop) → World → Prop} {a : Nat} {Y : List Nat} {T : Nat → Prop} {wr w' : World} {NB : Nat} (h : PcM W Bv YB AB l v J a Y T wr) (hJ : Abid J) (hb : Below wr.heap.size wr w') (h1 : wr.heap.size ≤ NB) (h2 : NB < w'.heap.size) : PcM W Bv YB AB l v J a Y (fun b => T b ∨ b = NB) w' where
  hj := hJ _ T wr w' _ h.hj (Frm.of_below hb) (fun b hb => by rcases hb with hb | hb; exact .inl hb; exact .inr (by omega))
  yb := h.yb.below hb
  ab := h.ab.below hb
  ty := .inl h.ty
  ta := .inl h.ta
  ne := h.ne
  tb := fun b hb' => by
    rcases hb' with hb' | rfl
    · exact ⟨(h.tb b hb').1, Nat.lt_of_lt_of_le (h.tb b hb').2 hb.size⟩
    · exact ⟨Nat.le_trans h.sz h1, h2⟩
  sz := Nat.le_trans h.sz hb.size
  cap := fun b hb' hc => (hb.block b (Nat.lt_of_lt_of_le hb' h.sz)).trans (h.cap b hb' hc)
def SgR (W : World) (Bv YB AB l : Nat) (v : Vw) (J : List Nat → (Nat → Prop) → World → Prop) (a e : Nat) (Y : List Nat) (sg : Nat → Nat) (T : Nat → Prop) (w0 wr : World) : Prop :=
  ∃ k : Nat, k ≤ e - a ∧ PcM W Bv YB AB l v J (a + k) (Y ++ segP sg a k) T wr ∧ KpV Bv AB v T w0 wr
set_option maxRecDepth 100000 in
set_option maxHeartbeats 4000000 in
theorem signs_in (m : Nat) (hm : 2 ≤ m) (W : World) (Bv YB AB l : Nat) (v : Vw) (lv : Nat → Lf) (nv : Nat → Nd) (ks : List Nat) (hV : VwOk W v lv nv ks) (hb : Blk W Bv v.cs 74)
    (L : List Nat) (J Jx : List Nat → (Nat → Prop) → World → Prop) (hJ : Abid J)
    (hY : ∀ (pre : List Nat) (x : Nat) (rest : List Nat) (T : Nat → Prop) (W1 : World), L = pre ++ x :: rest → J pre T W1 → (∀ b, T b → b < W1.heap.size) → YieldAt Fence.wide (m - 1) Tryd.prog l #[.int .u8 (x : Int)] W1 fun e W' => KpT (CapV Bv v) T W1 W' ∧ ((e = .returned (.bool true) ∧ J (pre ++ [x]) T W') ∨ (e = .returned (.bool false) ∧ Jx (pre ++ [x]) T W')))
    (a e : Nat) (Y : List Nat) (T : Nat → Prop) (w : World) (hS : PcM W Bv YB AB l v J a Y T w) (he : e ≤ v.ln) (hL : ∃ rest, L = Y ++ segP (fun i => sgn (lv i).k (lv i).s) a (e - a) ++ rest) :
    CallsIn Fence.wide m Tryd.prog 109 #[.int .i64 (e : Int), .pointer (some ⟨AB, 0, none⟩), .pointer (some ⟨YB, 0, none⟩), .pointer (some ⟨Bv, 0, none⟩)] w fun r w' =>
      KpV Bv AB v T w w' ∧ ((r = .returned (.bool true) ∧ PcM W Bv YB AB l v J (max a e) (Y ++ segP (fun i => sgn (lv i).k (lv i).s) a (e - a)) T w') ∨ (r = .returned (.bool false) ∧ ∃ pre, Jx pre T w')) := by
  obtain ⟨sg, hsg⟩ : ∃ sg : Nat → Nat, (fun i => sgn (lv i).k (lv i).s) = sg := ⟨_, rfl⟩
  rw [hsg] at hL ⊢
  have hro : Fence.wide.round = none := rfl
  have hfn : Fence.wide.fn 109 := trivial
  have HV := Lib.hid hV
  have HB := Lib.hid hb
  have HCL := Lib.hid (hV.capLt hb.lt)
  have HJ := Lib.hid hJ
  have HY := Lib.hid hY
  have HL := Lib.hid hL
  have HSG := Lib.hid hsg
  have HS := Lib.hid (show SgR W Bv YB AB l v J a e Y sg T w w from ⟨0, Nat.zero_le _, by rw [show segP sg a 0 = [] from rfl, List.append_nil]; exact hS, Nat.le_refl _, fun _ _ _ => rfl⟩)
  clear hV hb hJ hY hL hsg hS
  refine callsIn_of_wp Tryd.func109 rfl hfn ?_ hro
  simp only [Tryd.ntmps109, List.size_toArray, List.length_cons, List.length_nil, Nat.reduceAdd, Nat.reduceSub, Array.replicate_succ, Array.replicate_zero, List.push_toArray, List.append_toArray, List.nil_append, List.cons_append]
  gi_wp2
  gi_loopw [6] (fun v6 wr => SgR W Bv YB AB l v J a e Y sg T w wr) (fun _ wr => e - atZ wr AB)
  case atStart => exact HS.out
  case round =>
    obtain ⟨k, hk, hP, hK⟩ := hrel
    have hon := hP.vw HV.out
    have hvb := (hP.view HB.out).cell 0
    simp only [Vw.cs, List.getElem?_toArray, List.getElem?_cons_zero] at hvb
    have ca := hP.ab.cell 0
    have fa := hP.ab.frozen 0
    have cy := hP.yb.cell 0
    simp only [List.getElem?_toArray, List.getElem?_cons_zero] at ca cy
    by_cases hlt : a + k < e
    · obtain ⟨p, hp⟩ : ∃ p, a + k = p := ⟨_, rfl⟩
      rw [hp] at hlt ca hP
      obtain ⟨lb, lo, hla, hlw, l0, l1, l2, l3⟩ := hon.l p (by omega)
      rw [hla] at hvb
      obtain ⟨P, hPP⟩ : ∃ P, lv p = P := ⟨_, rfl⟩
      have hsl := hon.s p (by omega)
      rw [hPP] at l0 l1 l2 l3 hsl
      have hsgn : sg p = sgn P.k P.s := by rw [← HSG.out, ← hPP]
      obtain ⟨pk, ps, pf, pt⟩ := P
      simp only at l0 l1 l2 l3 hsl hsgn
      have hlt' : (p : Int) < (e : Int) := by omega
      have q0 : (0 : Int) ≤ (p : Int) := by omega
      have q1 : (p : Int) < (v.ln : Int) := by omega
      have e1 : IntKind.i64.wrap ((p : Int) + 1) = (p : Int) + 1 := IntWalk.i64_in _ (by have := hon.ln; omega)
      have hsi := fun Wd (hd : Below wr.heap.size wr Wd) => sign_any Wd ⟨pk, ps, pf, pt⟩ hsl (hon.tx.b hd)
      obtain ⟨c, hc⟩ : ∃ c, sg p = c := ⟨_, rfl⟩
      rw [hc] at hsgn
      simp only [← hsgn] at hsi
      have HSI := Lib.hid hsi
      have HP := Lib.hid hP
      have HK := Lib.hid hK
      have HC := Lib.hid hc
      have HPK := Lib.hid hp
      clear hsi hP hK hc hp hPP hsgn hon hla hsl
      have hyk : ∀ Wd, Below wr.heap.size wr Wd → YieldAt Fence.wide (m - 1) Tryd.prog l #[.int .u8 (c : Int)] Wd fun e W' => KpT (CapV Bv v) T Wd W' ∧ ((e = .returned (.bool true) ∧ J ((Y ++ segP sg a k) ++ [c]) T W') ∨ (e = .returned (.bool false) ∧ Jx ((Y ++ segP sg a k) ++ [c]) T W')) := fun Wd hd => by
        obtain ⟨rest, hL⟩ := HL.out
        refine HY.out (Y ++ segP sg a k) c (segP sg (a + k + 1) (e - a - k - 1) ++ rest) T Wd ?_ (HP.out.below HJ.out hd).hj (fun b hb => ((HP.out.below HJ.out hd).tb b hb).2)
        rw [hL, segP_split sg k (e - a) a (by have := HPK.out; omega), HPK.out, HC.out]
        simp only [List.append_assoc, List.cons_append]
      have HYK := Lib.hid hyk
      clear hyk
      gi_wp2
      have hmx : Tryd.prog.follows .mixedOrders = true := by kernel_rfl
      refine wpIn_noP ?_
      have hyl := HP.out.yb.lt
      simp only [aggF] at HSI
      gi_region_with_o (first
        | (refine ⟨trivial, fun _ => by omega, (callsIn_wide.2 (HSI.out _ (by first | exact Below.refl _ _ | exact (Below.refl _ _).drew | exact (Below.refl _ _).drew.drew | exact below_drewN (Below.refl _ _) _))).mono ?_⟩; rintro e1 w1 ⟨rfl, hb1⟩; have hd1 : Below wr.heap.size wr w1 := ⟨hb1.os, hb1.tape, hb1.output, hb1.size, hb1.block⟩; have cy1 := (hd1.cell (p := ⟨YB, 0, none⟩) hyl).trans cy; obtain ⟨fn9, tmps9, assign9, body9, hy9, hR9⟩ := HYK.out w1 hd1; clear hb1)
        | (refine ⟨fun _ => by omega, hR9.mono ?_⟩; rintro e9 W9 hh; obtain ⟨bb, rfl, hq9⟩ := yield_one hh; clear hh))
      all_goals
        dsimp only [noP]
        obtain ⟨hk9, hjt, hjf⟩ := hq9.out
        have hkv : KpV Bv AB v T wr W9 := (KpV.below hd1).trans (KpV.kpt hk9)
        have hp9 := fun hb => (HP.out.below HJ.out hd1).kpt hk9 (hjt hb)
        have HKV := Lib.hid hkv
        have HP9 := Lib.hid hp9
        have HJF := Lib.hid hjf
        have ab9 := (hk9.same _ (HP.out.below HJ.out hd1).ab.lt (.inl HP.out.ta)).trans (HP.out.below HJ.out hd1).ab
        have ca9 := (show Blk W9 AB #[.int .i64 (p : Int)] 3 from ab9).cell 0
        have fa9 := (show Blk W9 AB #[.int .i64 (p : Int)] 3 from ab9).frozen 0
        simp only [List.getElem?_toArray, List.getElem?_cons_zero] at ca9
        clear hk9 hjt hjf hkv hp9 hq9 hd1 cy1 hy9 hR9 ab9 ca fa cy hvb l0 l1 l2 l3
        cases bb
        · gi_wp2
          go_ret
          exact ⟨HK.out.trans HKV.out, .inr ⟨rfl, _, HJF.out (by first | rfl | trivial)⟩⟩
        · gi_wp2
          go_roundw
          case rel =>
            have hat := (HP9.out (by first | rfl | trivial)).at (a' := a + (k + 1)) HJ.out HCL.out
            refine ⟨k + 1, by have := HPK.out; omega, ?_, HK.out.trans (HKV.out.trans ?_)⟩
            · rw [segP_snoc, HPK.out, HC.out, ← List.append_assoc]
              have := HPK.out
              rw [show ((p : Int) + 1) = ((a + (k + 1) : Nat) : Int) from by omega]
              exact hat
            · exact KpV.at _ (fun hc => by have := HCL.out _ hc; have := (HP.out.tb _ HP.out.ta).1; omega)
          case measure =>
            have h1 := ((HP9.out (by first | rfl | trivial)).at (a' := p + 1) HJ.out HCL.out).atZ
            rw [show ((p : Int) + 1) = ((p + 1 : Nat) : Int) from by omega, h1, HP.out.atZ]
            omega
    · have hkk : k = e - a := by omega
      have hmx : a + k = max a e := by omega
      have hlt' : ¬ ((a + k : Nat) : Int) < (e : Int) := by omega
      have HP := Lib.hid (hmx ▸ hP)
      have HK := Lib.hid hK
      have HKK := Lib.hid hkk
      clear hP hK hkk hmx hlt hon hvb cy fa
      gi_wp2
      go_ret
      exact ⟨HK.out, .inl ⟨rfl, by rw [← HKK.out]; exact HP.out⟩⟩
end Go.Proofs.YtmjckjbdkffkoaaDoor

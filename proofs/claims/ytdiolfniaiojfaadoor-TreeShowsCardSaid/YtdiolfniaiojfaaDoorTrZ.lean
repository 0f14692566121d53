/- The path of the tree's upward, and how its memory lies. No condition: what it yields is XTrZa's. -/
import Derived.Test.YtdiolfniaiojfaaDoorTrY
import Derived.Test.YtdiolfniaiojfaaDoorApI
namespace Go.Proofs.YtdiolfniaiojfaaDoor
open Go.RowKit Go.Shelf
set_option linter.unusedVariables false
attribute [local go_sem] Oper.semAt_some

/-- The path that lies ahead of a round, from the top down; what was yielded ahead of it. -/
def pth (nv : Nat → Nd) (k : Nat) : List Nat := if k = 0 then [] else (chn nv (k - 1)).reverse
def ylb (nv : Nat → Nd) (k : Nat) : List Nat := if k = 0 then [] else yl nv (k - 1)
theorem ylb_ups (nv : Nat → Nd) (n : Nat) : ups nv n = ylb nv n ++ (pth nv n).reverse := by
  unfold ups ylb pth
  by_cases h : n = 0
  · simp [h]
  · simp [h]
theorem ylb_pre (nv : Nat → Nd) (k : Nat) : ∀ d, ∃ r, ylb nv (k + d) = ylb nv k ++ r
  | 0 => ⟨[], by simp⟩
  | d + 1 => by
    obtain ⟨r, hr⟩ := ylb_pre nv k d
    have h1 : ∃ q, ylb nv (k + d + 1) = ylb nv (k + d) ++ q := by
      unfold ylb
      by_cases h0 : k + d = 0
      · refine ⟨[], ?_⟩
        rw [if_neg (by omega), if_pos h0, h0]
        rfl
      · rw [if_neg (by omega), if_neg h0]
        obtain ⟨j, hj⟩ : ∃ j, k + d = j + 1 := ⟨k + d - 1, by omega⟩
        rw [hj]
        exact ⟨pops nv (j + 1), rfl⟩
    obtain ⟨q, hq⟩ := h1
    exact ⟨r ++ q, by rw [← Nat.add_assoc, hq, hr, List.append_assoc]⟩
theorem tw_mem {α : Type} (P : α → Bool) : ∀ (l : List α) (x : α), x ∈ l.takeWhile P → P x = true
  | [], x, h => by simp at h
  | a :: l, x, h => by
    rw [List.takeWhile_cons] at h
    split at h
    · rcases List.mem_cons.1 h with rfl | h
      · assumption
      · exact tw_mem P l x h
    · simp at h
theorem up_step {nv : Nat → Nd} {n k : Nat} (hs : Sp nv n) (hk : k < n) : ∃ pp D : List Nat, pth nv k = (pp ++ D).reverse ∧ (∀ x : Nat, x ∈ pp → (x : Int) ≠ (nv k).u) ∧ (D = [] ∨ ∃ (d : Nat) (D' : List Nat), D = d :: D' ∧ (d : Int) = (nv k).u) ∧ pth nv (k + 1) = D.reverse ++ [k] ∧ ylb nv (k + 1) = ylb nv k ++ pp ∧ (pth nv k).length ≤ k ∧ ∃ r, ups nv n = ylb nv (k + 1) ++ r := by
  have hpre : ∃ r, ups nv n = ylb nv (k + 1) ++ r := by
    obtain ⟨r, hr⟩ := ylb_pre nv (k + 1) (n - (k + 1))
    rw [show k + 1 + (n - (k + 1)) = n from by omega] at hr
    exact ⟨r ++ (pth nv n).reverse, by rw [ylb_ups, hr, List.append_assoc]⟩
  have hlen : (pth nv k).length ≤ k := by
    unfold pth
    by_cases h0 : k = 0
    · simp [h0]
    · rw [if_neg h0, List.length_reverse]
      have := yl_len hs (k - 1) (by omega)
      rw [List.length_append] at this
      omega
  rcases Nat.eq_zero_or_pos k with rfl | h0
  · refine ⟨[], [], rfl, (fun x hx => by cases hx), .inl rfl, ?_, by unfold ylb; rfl, hlen, hpre⟩
    unfold pth
    rw [if_neg (by omega), chn_top (by rw [show 0 + 1 - 1 = 0 from rfl, hs.1]; decide)]
    rfl
  · obtain ⟨u, e, l, h1, h2⟩ := chn_push hs h0 hk
    obtain ⟨r, hr⟩ := chn_head (nv := nv) u
    refine ⟨pops nv k, chn nv u, ?_, ?_, .inr ⟨u, r, hr, e.symm⟩, ?_, ?_, hlen, hpre⟩
    · unfold pth
      rw [if_neg (by omega), h2]
    · intro x hx
      unfold pops at hx
      have := tw_mem _ _ x hx
      simpa using this
    · unfold pth
      rw [if_neg (by omega), show k + 1 - 1 = k from rfl, h1, List.reverse_cons]
    · unfold ylb
      rw [if_neg (by omega), if_neg (by omega)]
      obtain ⟨j, hj⟩ : ∃ j, k = j + 1 := ⟨k - 1, by omega⟩
      subst hj
      rfl

theorem own_same {w w' : World} {base : Nat} {e : TypeId} {size n : Nat} {v : Value} {xs : List Value} (h : w.ownsRow base e size v n xs) (hk : ∀ k, v.ownBlock = some k → k < w.heap.size → w'.heap[k]? = w.heap[k]?) : w'.ownsRow base e size v n xs := by
  refine ⟨h.1, ?_⟩
  rcases h.2 with h0 | ⟨g, cap, cur, hv, hb, h3, h5⟩
  · exact .inl h0
  · exact .inr ⟨g, cap, cur, hv, hb, (hk g (by rw [hv]; rfl) (Array.getElem?_eq_some_iff.1 h3).1).trans h3, h5⟩
/-- How memory lies within upward: the path P in v, Y yielded, T the iterator's own blocks. -/
structure UpS (W : World) (Bx : Nat) (ao : Option Addr) (n l : Nat) (J : List Nat → (Nat → Prop) → World → Prop) (P Y : List Nat) (v : Value) (T : Nat → Prop) (wr : World) : Prop where
  hj : J Y T wr
  own : wr.ownsRow (W.heap.size + 1) 3 1 v P.length (cellsO P)
  yb : Blk wr W.heap.size #[.func (.yield l) #[] #[]] 50
  ty : T W.heap.size
  tv : ∀ g, v.ownBlock = some g → T g
  tb : ∀ b, T b → W.heap.size ≤ b ∧ b < wr.heap.size
  cap : ∀ b, b < W.heap.size → CapN Bx ao n b → wr.heap[b]? = W.heap[b]?
section
variable {W : World} {Bx : Nat} {ao : Option Addr} {n l : Nat} {J : List Nat → (Nat → Prop) → World → Prop} {P Y Y' : List Nat} {v : Value} {T T' : Nat → Prop} {wr w' : World}
theorem UpS.kpt (h : UpS W Bx ao n l J P Y v T wr) (hk : KpT (CapN Bx ao n) T wr w') (hj : J Y' T w') : UpS W Bx ao n l J P Y' v T w' where
  hj := hj
  own := own_same h.own (fun g hg hl => hk.same g hl (.inl (h.tv g hg)))
  yb := (hk.same _ h.yb.lt (.inl h.ty)).trans h.yb
  ty := h.ty
  tv := h.tv
  tb := fun b hb => ⟨(h.tb b hb).1, Nat.lt_of_lt_of_le (h.tb b hb).2 hk.size⟩
  cap := fun b hb hc => (hk.same b (Nat.lt_trans hb (Nat.lt_of_le_of_lt (h.tb _ h.ty).1 (h.tb _ h.ty).2)) (.inr hc)).trans (h.cap b hb hc)
theorem UpS.pop {L : List Nat} {x g y oc : Nat} (h : UpS W Bx ao n l J (L ++ [x]) Y (.slice (some ⟨g, 0, none⟩) (y + 1) oc) T wr) (hy : L.length = y) : UpS W Bx ao n l J L Y (.slice (some ⟨g, 0, none⟩) y oc) T wr where
  hj := h.hj
  own := by
    have h1 := h.own
    rw [List.length_append, List.length_singleton, hy] at h1
    rw [hy]
    exact owns_pop h1 (by omega) (by rw [cellsO_append, List.take_left' (by rw [cellsO_length, hy])])
  yb := h.yb
  ty := h.ty
  tv := fun g' hg => h.tv g' hg
  tb := h.tb
  cap := h.cap
theorem UpS.lt (h : UpS W Bx ao n l J P Y v T wr) : W.heap.size < wr.heap.size := (h.tb _ h.ty).2
/-- New blocks become the iterator's own. -/
theorem UpS.below (h : UpS W Bx ao n l J P Y v T wr) (hJ : Abid J) (hb : Below wr.heap.size wr w') (hT : ∀ b, T b → T' b) (hT' : ∀ b, T' b → T b ∨ wr.heap.size ≤ b) (hl : ∀ b, T' b → b < w'.heap.size) : UpS W Bx ao n l J P Y v T' w' where
  hj := hJ _ T wr w' T' h.hj (Frm.of_below hb) hT'
  own := own_below h.own hb
  yb := h.yb.below hb
  ty := hT _ h.ty
  tv := fun g hg => hT g (h.tv g hg)
  tb := fun b hb' => ⟨by rcases hT' b hb' with g | g; exact (h.tb b g).1; have := h.lt; omega, hl b hb'⟩
  cap := fun b hb' hc => (hb.block b (by have := h.lt; omega)).trans (h.cap b hb' hc)
/-- One more on the path: the row's block, old or new, is the iterator's own. -/
theorem UpS.push {x : Nat} {w5 w6 : World} {oa : Option Addr} {c : Nat} (h : UpS W Bx ao n l J P Y v T wr) (hJ : Abid J) (hb : Below wr.heap.size wr w5) (hown : w6.ownsRow (W.heap.size + 1) 3 1 (.slice oa (P.length + 1) c) (P.length + 1) (cellsO P ++ [.int .i64 (x : Int)])) (hg : w5.grownBy w6 v.ownBlock) (ho : (Value.slice oa (P.length + 1) c).ownBlock = v.ownBlock ∨ (Value.slice oa (P.length + 1) c).ownBlock = some w5.heap.size) : ∃ T', UpS W Bx ao n l J (P ++ [x]) Y (.slice oa (P.length + 1) c) T' w6 := by
  have hv : ∀ g, v.ownBlock = some g → W.heap.size + 1 ≤ g ∧ T g := fun g hg => by
    refine ⟨?_, h.tv g hg⟩
    rcases h.own.2 with ⟨h0, _⟩ | ⟨k, cap, cur, h1, h2, _⟩
    · rw [h0] at hg; cases hg
    · rw [h1] at hg
      cases hg
      exact h2
  have hF : Frm (fun b => v.ownBlock = some b) wr w6 := (Frm.of_below hb).grown hg (fun k hk => .inl hk)
  have hFT : Frm T wr w6 := hF.mono (fun b _ hb => h.tv b hb)
  have hlt := h.lt
  have hs5 := hb.size
  have hnew : ∀ b, (Value.slice oa (P.length + 1) c).ownBlock = some b → (T b ∧ W.heap.size + 1 ≤ b) ∨ b = w5.heap.size := fun b hT => by
    rcases ho with e | e
    · have := hv b (by rw [← e]; exact hT)
      exact .inl ⟨this.2, this.1⟩
    · rw [e] at hT
      injection hT with hT
      exact .inr hT.symm
  refine ⟨fun b => T b ∨ (Value.slice oa (P.length + 1) c).ownBlock = some b, hJ _ T wr w6 _ h.hj hFT ?_, ?_, (hF.block _ hlt (fun hT => ?_)).trans h.yb, .inl h.ty, fun g hg => .inr hg, ?_, ?_⟩
  · rintro b (hT | hT)
    · exact .inl hT
    · rcases hnew b hT with e | e
      · exact .inl e.1
      · exact .inr (by omega)
  · rw [List.length_append, List.length_singleton, cellsO_append]
    exact hown
  · have := (hv _ hT).1
    omega
  · rintro b (hT | hT)
    · have := h.tb b hT
      have := hF.size
      exact ⟨by omega, by omega⟩
    · obtain ⟨g, cap, h1, h2, h3, h4, h5⟩ := owns_nil hown (by omega)
      rw [h1] at hT
      have hgb : g = b := Option.some.inj hT
      subst hgb
      exact ⟨by omega, h5⟩
  · intro b hb' hc
    refine (hF.block b (by omega) (fun hT => ?_)).trans (h.cap b hb' hc)
    have := (hv b hT).1
    omega
end
/-- A post of which no panic is left. -/
def noP (Q : Exit → Act → World → Prop) : Exit → Act → World → Prop
  | .panic _, _, _ => False
  | e, a, w => Q e a w
theorem wpIn_noP {F : Fence} {m : Nat} {P : Program} {c : Code} {Q : Exit → Act → World → Prop} {a : Act} {w : World} (h : c.wpIn F m P (noP Q) a w) : c.wpIn F m P Q a w :=
  wpIn_mono h (fun e a w hq => by
    cases e
    all_goals first | exact hq | exact hq.elim)
/-- What a yield answers, said in one way. -/
theorem yield_one {e : Ending} {K A B : Prop} (h : K ∧ ((e = .returned (.bool true) ∧ A) ∨ (e = .returned (.bool false) ∧ B))) : ∃ bb, e = .returned (.bool bb) ∧ Hid (K ∧ (bb = true → A) ∧ (bb = false → B)) := by
  rcases h with ⟨k, ⟨rfl, a⟩ | ⟨rfl, a⟩⟩
  · exact ⟨true, rfl, Lib.hid ⟨k, fun _ => a, fun h => by cases h⟩⟩
  · exact ⟨false, rfl, Lib.hid ⟨k, fun h => (by cases h), fun _ => a⟩⟩
/-- Ahead of a round of upward's outer loop. -/
def UpO (W : World) (Bx : Nat) (ao : Option Addr) (n l : Nat) (J : List Nat → (Nat → Prop) → World → Prop) (nv : Nat → Nd) (v3 v11 : Value) (wr : World) : Prop :=
  ∃ k : Nat, k ≤ n ∧ v11 = .int .i64 (k : Int) ∧ ∃ T, UpS W Bx ao n l J (pth nv k) (ylb nv k) v3 T wr
/-- Ahead of a round of the inner one: A is popped, B is yet to be. -/
def UpN (W : World) (Bx : Nat) (ao : Option Addr) (n l : Nat) (J : List Nat → (Nat → Prop) → World → Prop) (nv : Nat → Nd) (k NB : Nat) (pp D : List Nat) (v3 v6 : Value) (wr : World) : Prop :=
  ∃ A B : List Nat, pp = A ++ B ∧ v6 = .int .i64 (((B ++ D).length : Int) - 1) ∧ ∃ T, UpS W Bx ao n l J (B ++ D).reverse (ylb nv k ++ A) v3 T wr ∧ T NB ∧ Blk wr NB #[.int .i64 (nv k).k, .int .i64 (nv k).f, .int .i64 (nv k).t, .int .i64 (nv k).u] 27

/-- What holds ahead of a round of upward's last range; z: the heap's size where it began. -/
def IuP (J : List Nat → (Nat → Prop) → World → Prop) (lv Y : List Nat) (YB l z Bp : Nat) (po : Option Addr) (m : Nat) (pre : List Nat) (T : Nat → Prop) (W : World) : Prop :=
  ∃ To : Nat → Prop, J (Y ++ pre.map (ol lv)) To W ∧ Blk W YB #[.func (.yield l) #[] #[]] 50 ∧ (∀ b, T b → To b ∧ z + 2 ≤ b) ∧ To YB ∧ To z ∧ To (z + 1) ∧ (∀ b, CapN Bp po m b → To b) ∧ z + 2 ≤ W.heap.size ∧ YB < z
def IuX (Jx : List Nat → (Nat → Prop) → World → Prop) (z : Nat) (c : Code) (pre : List Nat) (T : Nat → Prop) (W : World) : Prop :=
  c = .ret ∧ ∃ s To, Jx s To W ∧ (∀ b, T b → To b ∧ z + 2 ≤ b) ∧ To z ∧ To (z + 1) ∧ z + 2 ≤ W.heap.size
theorem IuP.abid {J : List Nat → (Nat → Prop) → World → Prop} {lv Y : List Nat} {YB l z Bp : Nat} {po : Option Addr} {m : Nat} (hJ : Abid J) : AbidL (z + 1) (IuP J lv Y YB l z Bp po m) := by
  rintro pre T W W' T' ⟨To, h1, h2, h3, h4, h5, h6, h7, h8, h9⟩ hf hT'
  have hs := hf.size
  refine ⟨fun b => To b ∨ T' b, hJ _ To W W' _ h1 (hf.mono (fun b _ hb => ?_)) ?_, h2.frm hf (fun hh => ?_), ?_, .inl h4, .inl h5, .inl h6, fun b hb => .inl (h7 b hb), by omega, h9⟩
  · rcases hb with g | rfl
    · exact (h3 b g).1
    · exact h6
  · rintro b (hb | hb)
    · exact .inl hb
    · exact (hT' b hb).imp (fun g => (h3 b g).1) id
  · rcases hh with g | g
    · have := (h3 _ g).2; omega
    · omega
  · intro b hb
    refine ⟨.inr hb, ?_⟩
    rcases hT' b hb with g | g
    · exact (h3 b g).2
    · omega
theorem IuX.abid {Jx : List Nat → (Nat → Prop) → World → Prop} {z : Nat} (hJ : Abid Jx) (c : Code) : AbidL (z + 1) (IuX Jx z c) := by
  rintro pre T W W' T' ⟨rfl, s, To, h1, h3, h5, h6, h8⟩ hf hT'
  have hs := hf.size
  refine ⟨rfl, s, fun b => To b ∨ T' b, hJ _ To W W' _ h1 (hf.mono (fun b _ hb => ?_)) ?_, ?_, .inl h5, .inl h6, by omega⟩
  · rcases hb with g | rfl
    · exact (h3 b g).1
    · exact h6
  · rintro b (hb | hb)
    · exact .inl hb
    · exact (hT' b hb).imp (fun g => (h3 b g).1) id
  · intro b hb
    refine ⟨.inr hb, ?_⟩
    rcases hT' b hb with g | g
    · exact (h3 b g).2
    · omega
theorem rvR_ol (lv : List Nat) : (rvR lv.length).map (ol lv) = lv.reverse := by
  unfold rvR
  rw [List.map_reverse]
  congr 1
  apply List.ext_getElem?
  intro i
  rw [List.getElem?_map]
  rcases Nat.lt_or_ge i lv.length with h | h
  · rw [List.getElem?_range h, List.getElem?_eq_getElem h]
    simp [ol, List.getElem?_eq_getElem h]
  · rw [List.getElem?_eq_none (by simpa using h), List.getElem?_eq_none h]
    rfl
theorem rvR_olat {lv pre rest : List Nat} {x : Nat} (h : rvR lv.length = pre ++ x :: rest) : lv.reverse = pre.map (ol lv) ++ ol lv x :: rest.map (ol lv) := by
  rw [← rvR_ol, h, List.map_append, List.map_cons]
end Go.Proofs.YtdiolfniaiojfaaDoor

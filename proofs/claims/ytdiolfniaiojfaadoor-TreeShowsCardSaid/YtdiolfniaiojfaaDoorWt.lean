/- A range over a function whose iterator keeps state of its own in cells: the iterator names the blocks that are its own (T), the rounds keep these and what it has captured (C); the rounds' state abides whatever becomes of T. No condition: nothing here speaks of the program. -/
import Derived.Test.YtdiolfniaiojfaaDoorMem
import Derived.RangeFuncNested
import Derived.RangeFuncBound
namespace Go.Proofs.YtdiolfniaiojfaaDoor
open Go.RowKit
set_option linter.unusedVariables false

/-- A step of the iterator: blocks of T are turned, new ones may become its own. -/
def Abid {β : Type} (J : β → (Nat → Prop) → World → Prop) : Prop :=
  ∀ s T W W' T', J s T W → Frm T W W' → (∀ b, T' b → T b ∨ W.heap.size ≤ b) → J s T' W'
/-- The same, where the loop's own record may be turned, too. -/
def AbidL {β : Type} (l : Nat) (J : β → (Nat → Prop) → World → Prop) : Prop :=
  ∀ s T W W' T', J s T W → Frm (fun b => T b ∨ b = l) W W' → (∀ b, T' b → T b ∨ W.heap.size ≤ b) → J s T' W'
/-- What a round keeps. -/
structure KpT (C T : Nat → Prop) (W W' : World) : Prop where
  size : W.heap.size ≤ W'.heap.size
  same : ∀ b, b < W.heap.size → (T b ∨ C b) → W'.heap[b]? = W.heap[b]?
theorem KpT.refl (C T : Nat → Prop) (W : World) : KpT C T W W := ⟨Nat.le_refl _, fun _ _ _ => rfl⟩
theorem KpT.trans {C T : Nat → Prop} {X Y Z : World} (h : KpT C T X Y) (k : KpT C T Y Z) : KpT C T X Z :=
  ⟨Nat.le_trans h.size k.size, fun b hb ht => (k.same b (Nat.lt_of_lt_of_le hb h.size) ht).trans (h.same b hb ht)⟩
theorem KpT.of_frm {C T p : Nat → Prop} {X Y : World} (h : Frm p X Y) (hp : ∀ b, b < X.heap.size → p b → ¬ T b ∧ ¬ C b) : KpT C T X Y :=
  ⟨h.size, fun b hb ht => h.block b hb (fun hh => by have := hp b hb hh; rcases ht with h | h; exact this.1 h; exact this.2 h)⟩
theorem KpT.putObj {C T : Nat → Prop} {W : World} {l : Nat} (o : Obj) (ht : ¬ T l) (hc : ¬ C l) : KpT C T W (W.putObj l o) :=
  ⟨by simp, fun b hb h => World.putObj_heap_other (fun e => by subst e; rcases h with h | h; exact ht h; exact hc h)⟩
theorem frm_put {p : Nat → Prop} (W : World) {l : Nat} (o : Obj) (hp : p l) : Frm p W (W.putObj l o) :=
  ⟨rfl, rfl, rfl, by simp, fun k hk h => World.putObj_heap_other (fun e => by subst e; exact h hp)⟩
theorem YieldAt.any {n m : Nat} {P : Program} {l : Nat} {args : Array Value} {W : World} {R : Ending → World → Prop} (h : YieldAt Fence.wide n P l args W R) : YieldAt Fence.wide m P l args W R := by
  obtain ⟨fn, tmps, assign, body, h1, h2, h3⟩ := h
  exact ⟨fn, tmps, assign, body, h1, h2, fun c cs _ => h3 c cs (by simp [Fence.room, Fence.wide])⟩

/-- An iterator's contract: it yields L, and turns no block but its own. -/
def SeqT {α : Type} (n : Nat) (P : Program) (g : Nat) (lb : Array Value) (encs : α → Array Value) (C : Nat → Prop) (L : List α) (W : World) : Prop :=
  ∀ (l : Nat) (J Jx : List α → (Nat → Prop) → World → Prop), Abid J → Abid Jx →
    (∀ pre x rest T W1, L = pre ++ x :: rest → J pre T W1 → (∀ b, T b → b < W1.heap.size) → YieldAt Fence.wide (n - 1) P l (encs x) W1 fun e W' =>
      KpT C T W1 W' ∧ ((e = .returned (.bool true) ∧ J (pre ++ [x]) T W') ∨ (e = .returned (.bool false) ∧ Jx (pre ++ [x]) T W'))) →
    J [] (fun _ => False) W →
    CallsIn Fence.wide n P g (#[.func (.yield l) #[] #[]] ++ lb) W fun e W' => (∃ v, e = .returned v) ∧ ((∃ T, J L T W') ∨ (∃ pre T, Jx pre T W'))

/-- How the body of a round may be left; l: the loop's record. -/
def postT {α : Type} (C : Nat → Prop) (l D : Nat) (I : List α → (Nat → Prop) → World → Prop) (Ix : Code → List α → (Nat → Prop) → World → Prop) (xs : List α) (T : Nat → Prop) (W : World) : Exit → Act → World → Prop
  | .normal, _, W' => W'.heap[l]? = W.heap[l]? ∧ W'.heap[D]? = W.heap[D]? ∧ KpT C T W W' ∧ I xs T W'
  | .ret, _, W' => W'.heap[l]? = W.heap[l]? ∧ W'.heap[D]? = W.heap[D]? ∧ KpT C T W W' ∧ Ix .ret xs T W'
  | .exit id, _, W' => W'.heap[l]? = W.heap[l]? ∧ W'.heap[D]? = W.heap[D]? ∧ KpT C T W W' ∧ Ix (.exit id) xs T W'
  | .goto t, _, W' => W'.heap[l]? = W.heap[l]? ∧ W'.heap[D]? = W.heap[D]? ∧ KpT C T W W' ∧ Ix (.goto t) xs T W'
  | .panic _, _, _ => False
  | .outgrown, _, _ => False

variable {n : Nat} {P : Program} {w : World}
theorem wpT {α : Type} {g : Operand} {ps : Array Tmp} {assign body : Code} {Q : Exit → Act → World → Prop} {a : Act}
    {gf : Nat} {lb : Array Value} (hg : a.eval g = .func (.func gf) #[] lb) (eg : ∀ args w, (callFunc gf args).run P w = .ok (.enter gf args) w)
    {encs : α → Array Value} {C : Nat → Prop} {L : List α} (hseq : ∀ W, Below w.heap.size w W → SeqT (n - 1) P gf lb encs C L W)
    (hC : ∀ b, C b → b < w.heap.size) (hps : ∀ x, (encs x).size = ps.size)
    (I : List α → (Nat → Prop) → World → Prop) (Ix : Code → List α → (Nat → Prop) → World → Prop) (hI : AbidL (w.heap.size + 1) I) (hIx : ∀ c, AbidL (w.heap.size + 1) (Ix c))
    (h0 : ∀ W, Below w.heap.size w W → W.heap.size = w.heap.size + 2 → I [] (fun _ => False) W)
    (hround : ∀ pre x rest T W, L = pre ++ x :: rest → I pre T W → (∀ b, T b → b < W.heap.size) → w.heap.size + 2 ≤ W.heap.size → (∃ r, W.heap[w.heap.size + 1]? = some (.loop r)) → W.heap[w.heap.size]? = some (.deferred (some [])) → ¬ T (w.heap.size + 1) → ¬ T w.heap.size →
      assign.wpIn (Fence.wide.inRound (w.heap.size + 1)) (n - 1 - 1) P (Exit.then (fun a' W' => W'.heap[w.heap.size + 1]? = W.heap[w.heap.size + 1]? ∧ W'.heap[w.heap.size]? = W.heap[w.heap.size]? ∧ KpT C T W W' ∧
        ∀ r, body.wpIn (Fence.wide.inRound (w.heap.size + 1)) (n - 1 - 1) P (postT C (w.heap.size + 1) w.heap.size I Ix (pre ++ [x]) T (W'.putObj (w.heap.size + 1) (.loop r))) a' (W'.putObj (w.heap.size + 1) (.loop r))) (fun _ _ _ => False)) { tmps := (ps.zip (encs x)).foldl (fun t (p, v) => t.setIfInBounds p v) a.tmps, defers := [] } W)
    (hdone : ∀ T W, I L T W → w.heap.size + 2 ≤ W.heap.size → W.heap[w.heap.size]? = some (.deferred (some [])) → Q .normal { a with defers := { target := .collected w.heap.size, args := #[] } :: a.defers } W)
    (hstop : ∀ c pre T W, Ix c pre T W → w.heap.size + 2 ≤ W.heap.size → W.heap[w.heap.size]? = some (.deferred (some [])) → c.wpIn Fence.wide n P Q { a with defers := { target := .collected w.heap.size, args := #[] } :: a.defers } W) :
    (Code.rangeFunc g ps assign body).wpIn Fence.wide n P Q a w := by
  refine wpIn_rangeFunc ?_
  intro fn hfn
  rw [show Fence.wide.round = none from rfl]
  obtain ⟨rec, hrec⟩ : ∃ rec : LoopState → Option Code → Loop, rec = fun st pe => { state := st, pending := pe, fn, tmps := a.tmps, params := ps, assign, body, defers := w.heap.size } := ⟨_, rfl⟩
  obtain ⟨W1, hW1⟩ : ∃ W1, (w.alloc (.deferred (some []))).alloc (.loop (rec .ready none)) = W1 := ⟨_, rfl⟩
  have hL1 : W1.heap[w.heap.size + 1]? = some (.loop (rec .ready none)) := by
    rw [← hW1]; have := World.alloc_heap_new (w.alloc (.deferred (some []))) (.loop (rec .ready none)); rwa [World.size_alloc] at this
  have hD1 : W1.heap[w.heap.size]? = some (.deferred (some [])) := by
    rw [← hW1]; exact (Below.heap_alloc _ _ _ (by simp)).trans (World.alloc_heap_new w _)
  have hs1 : W1.heap.size = w.heap.size + 2 := by rw [← hW1]; simp
  have hb1 : Below w.heap.size w W1 := by rw [← hW1]; exact ((Below.refl _ w).alloc (Nat.le_refl _) _).alloc (by simp) _
  refine ⟨w.heap.size + 1, [{ target := .collected w.heap.size, args := #[] }], W1, { target := .fn (.func gf) lb, args := #[.func (.yield (w.heap.size + 1)) #[] #[]] }, W1, gf,
    #[.func (.yield (w.heap.size + 1)) #[] #[]] ++ lb, W1, ?_, ?_, ?_, ?_, (fun h => by cases h), ?_⟩
  · rw [← hW1, hrec]; exact run_enterLoop_outer _ _ _ _ _
  · simp only [resolve, hg]
    simp [go_sem]
  · intro f' hf'; trivial
  · simp [invoke, go_sem, eg]
  · refine (hseq W1 hb1 (w.heap.size + 1)
      (fun pre T W => I pre T W ∧ W.heap[w.heap.size + 1]? = some (.loop (rec .ready none)) ∧ W.heap[w.heap.size]? = some (.deferred (some [])) ∧ ¬ T (w.heap.size + 1) ∧ ¬ T w.heap.size)
      (fun pre T W => ∃ c, Ix c pre T W ∧ W.heap[w.heap.size + 1]? = some (.loop (rec .done (some c))) ∧ W.heap[w.heap.size]? = some (.deferred (some [])) ∧ ¬ T (w.heap.size + 1) ∧ ¬ T w.heap.size)
      ?_ ?_ ?_ ⟨h0 W1 hb1 hs1, hL1, hD1, fun h => h, fun h => h⟩).mono ?_
    · rintro s T A B T' ⟨hi, hl, hd, t1, t2⟩ hf hT
      have l1 := (Array.getElem?_eq_some_iff.1 hl).1
      exact ⟨hI s T A B T' hi (hf.mono fun _ _ h => .inl h) hT, (hf.block _ l1 t1).trans hl, (hf.block _ (by omega) t2).trans hd, fun h => by rcases hT _ h with h | h; exact t1 h; omega, fun h => by rcases hT _ h with h | h; exact t2 h; omega⟩
    · rintro s T A B T' ⟨c, hi, hl, hd, t1, t2⟩ hf hT
      have l1 := (Array.getElem?_eq_some_iff.1 hl).1
      exact ⟨c, hIx c s T A B T' hi (hf.mono fun _ _ h => .inl h) hT, (hf.block _ l1 t1).trans hl, (hf.block _ (by omega) t2).trans hd, fun h => by rcases hT _ h with h | h; exact t1 h; omega, fun h => by rcases hT _ h with h | h; exact t2 h; omega⟩
    · rintro pre x rest T W hLx ⟨hi, hl, hd, t1, t2⟩ hTb
      have c1 : ¬ C (w.heap.size + 1) := fun h => by have := hC _ h; omega
      have l1 := (Array.getElem?_eq_some_iff.1 hl).1
      have hy := run_yield (P := P) (args := encs x) hl (by rw [hrec]; exact hps x)
      rw [hrec] at hy
      refine ⟨fn, _, assign, body, hy, roundIn_of_wpIn hfn (wpIn_mono (hround pre x rest T W hLx hi hTb (by omega) ⟨_, hl⟩ hd t1 t2) ?_)⟩
      clear hy
      rintro e0 a' Wa he0
      cases e0 with
      | normal => ?_
      | ret => exact he0.elim
      | exit id => exact he0.elim
      | goto t => exact he0.elim
      | panic ch => exact he0.elim
      | outgrown => exact he0.elim
      obtain ⟨hla, hda, hka, hbody⟩ := he0
      have hl2 := hla.trans hl
      have hd2 := hda.trans hd
      have l2 := (Array.getElem?_eq_some_iff.1 hl2).1
      refine ⟨_, run_beginRound hl2 (by rw [hrec]), ?_⟩
      have hl3 : (Wa.putObj (w.heap.size + 1) (.loop { rec .ready none with state := .busy })).heap[w.heap.size + 1]? = some (.loop { rec .ready none with state := .busy }) := World.putObj_heap_same l2
      have hd3 : (Wa.putObj (w.heap.size + 1) (.loop { rec .ready none with state := .busy })).heap[w.heap.size]? = some (.deferred (some [])) := (World.putObj_heap_other (by omega)).trans hd2
      have hsame : ∀ b, T b → T b ∨ Wa.heap.size ≤ b := fun _ h => .inl h
      refine wpIn_mono (hbody { rec .ready none with state := .busy }) ?_
      have fin : ∀ (jump : Option Code) (W3 : World), W3.heap[w.heap.size + 1]? = (Wa.putObj (w.heap.size + 1) (.loop { rec .ready none with state := .busy })).heap[w.heap.size + 1]? → W3.heap[w.heap.size]? = (Wa.putObj (w.heap.size + 1) (.loop { rec .ready none with state := .busy })).heap[w.heap.size]? →
          (Instr.endRound (w.heap.size + 1) jump).run P W3 = .ok (.bool jump.isNone) (W3.putObj (w.heap.size + 1) (.loop (rec (if jump.isNone then .ready else .done) jump))) ∧
          (W3.putObj (w.heap.size + 1) (.loop (rec (if jump.isNone then .ready else .done) jump))).heap[w.heap.size + 1]? = some (.loop (rec (if jump.isNone then .ready else .done) jump)) ∧
          (W3.putObj (w.heap.size + 1) (.loop (rec (if jump.isNone then .ready else .done) jump))).heap[w.heap.size]? = some (.deferred (some [])) := fun jump W3 h1 h2 => by
        have hl4 := h1.trans hl3
        have := run_endRound (P := P) jump hl4
        rw [hrec] at this ⊢
        exact ⟨this, World.putObj_heap_same (Array.getElem?_eq_some_iff.1 hl4).1, (World.putObj_heap_other (by omega)).trans (h2.trans hd3)⟩
      rintro e a3 W3 hp
      cases e with
      | normal =>
        obtain ⟨h1, h2, hk3, hi3⟩ := hp
        obtain ⟨hr, hl4, hd4⟩ := fin none W3 h1 h2
        exact ⟨_, _, hr, hka.trans (((KpT.putObj _ t1 c1).trans hk3).trans (KpT.putObj _ t1 c1)), .inl ⟨rfl, hI _ T _ _ T hi3 (frm_put W3 _ (.inr rfl)) (fun _ h => .inl h), hl4, hd4, t1, t2⟩⟩
      | ret =>
        obtain ⟨h1, h2, hk3, hi3⟩ := hp
        obtain ⟨hr, hl4, hd4⟩ := fin (some .ret) W3 h1 h2
        exact ⟨_, _, hr, hka.trans (((KpT.putObj _ t1 c1).trans hk3).trans (KpT.putObj _ t1 c1)), .inr ⟨rfl, .ret, hIx _ _ T _ _ T hi3 (frm_put W3 _ (.inr rfl)) (fun _ h => .inl h), hl4, hd4, t1, t2⟩⟩
      | exit id =>
        obtain ⟨h1, h2, hk3, hi3⟩ := hp
        obtain ⟨hr, hl4, hd4⟩ := fin (some (.exit id)) W3 h1 h2
        exact ⟨_, _, hr, hka.trans (((KpT.putObj _ t1 c1).trans hk3).trans (KpT.putObj _ t1 c1)), .inr ⟨rfl, .exit id, hIx _ _ T _ _ T hi3 (frm_put W3 _ (.inr rfl)) (fun _ h => .inl h), hl4, hd4, t1, t2⟩⟩
      | goto t =>
        obtain ⟨h1, h2, hk3, hi3⟩ := hp
        obtain ⟨hr, hl4, hd4⟩ := fin (some (.goto t)) W3 h1 h2
        exact ⟨_, _, hr, hka.trans (((KpT.putObj _ t1 c1).trans hk3).trans (KpT.putObj _ t1 c1)), .inr ⟨rfl, .goto t, hIx _ _ T _ _ T hi3 (frm_put W3 _ (.inr rfl)) (fun _ h => .inl h), hl4, hd4, t1, t2⟩⟩
      | panic ch => exact hp.elim
      | outgrown => exact hp.elim
    · rintro e W2 ⟨⟨v, rfl⟩, (⟨T, hi, hl, hd, t1, t2⟩ | ⟨pre, T, c, hi, hl, hd, t1, t2⟩)⟩
      · have l1 := (Array.getElem?_eq_some_iff.1 hl).1
        exact ⟨none, _, by have := run_endLoop (P := P) hl (by rw [hrec]; simp); rw [hrec] at this; exact this, hdone T _ (hI _ T _ _ T hi (frm_put W2 _ (.inr rfl)) (fun _ h => .inl h)) (by simp; omega) ((World.putObj_heap_other (by omega)).trans hd)⟩
      · have l1 := (Array.getElem?_eq_some_iff.1 hl).1
        exact ⟨some c, _, by have := run_endLoop (P := P) hl (by rw [hrec]; simp); rw [hrec] at this; exact this, hstop c pre T _ (hIx c _ T _ _ T hi (frm_put W2 _ (.inr rfl)) (fun _ h => .inl h)) (by simp; omega) ((World.putObj_heap_other (by omega)).trans hd)⟩
end Go.Proofs.YtdiolfniaiojfaaDoor

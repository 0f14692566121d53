/- Trees over a row of leaves, plainly: who is above whom, what is right, where what is below a node ends, in which order the nodes come. No condition: nothing here speaks of the program. -/
import Derived.Test.YtdiolfniaiojfaaDoorMem
namespace Go.Proofs.YtdiolfniaiojfaaDoor
open Go.RowKit
set_option linter.unusedVariables false

/-- A node: its kind, its first leaf, the leaf behind its last one, the node above it. -/
structure Nd where
  k : Int
  f : Int
  t : Int
  u : Int

theorem Nd.ext' {a b : Nd} (h1 : a.k = b.k) (h2 : a.f = b.f) (h3 : a.t = b.t) (h4 : a.u = b.u) : a = b := by
  cases a; cases b; simp_all

/-- Is a node another one, or above it? -/
inductive Abv (nv : Nat → Nd) (a : Nat) : Nat → Prop
  | self : Abv nv a a
  | up {b c : Nat} : (nv b).u = (c : Int) → c < b → Abv nv a c → Abv nv a b

section
variable {nv : Nat → Nd}
theorem Abv.le {a b : Nat} (h : Abv nv a b) : a ≤ b := by
  induction h with
  | self => exact Nat.le_refl _
  | up _ _ _ ih => omega
theorem Abv.trans {a b c : Nat} (h : Abv nv a b) (g : Abv nv b c) : Abv nv a c := by
  induction g with
  | self => exact h
  | up e l _ ih => exact .up e l ih
theorem Abv.inv {a b : Nat} (h : Abv nv a b) : a = b ∨ ∃ c : Nat, (nv b).u = (c : Int) ∧ c < b ∧ Abv nv a c := by
  cases h with
  | self => exact .inl rfl
  | up e l g => exact .inr ⟨_, e, l, g⟩
theorem Abv.tot {a b c : Nat} (h : Abv nv a c) (g : Abv nv b c) (hab : a ≤ b) : Abv nv a b := by
  induction g with
  | self => exact h
  | @up c d e l g ih =>
    rcases h.inv with rfl | ⟨d', e', l', h'⟩
    · have := g.le; omega
    · obtain rfl : d = d' := by omega
      exact ih h'

/-- A node hangs on the one right ahead of it, or on one above that. -/
def UpOk (nv : Nat → Nd) (i : Nat) : Prop := ∃ u : Nat, (nv i).u = (u : Int) ∧ u < i ∧ Abv nv u (i - 1)
/-- The nodes' Ups are those of a tree. -/
def Sp (nv : Nat → Nd) (n : Nat) : Prop := (nv 0).u = -1 ∧ ∀ i, 0 < i → i < n → UpOk nv i
theorem Sp.mono {n m : Nat} (h : Sp nv n) (hm : m ≤ n) : Sp nv m := ⟨h.1, fun i h0 h1 => h.2 i h0 (by omega)⟩
theorem contig {n : Nat} (hs : Sp nv n) : ∀ b, b < n → ∀ a, Abv nv a b → ∀ j, a ≤ j → j ≤ b → Abv nv a j := by
  intro b
  induction b using Nat.strongRecOn with
  | _ b ih =>
    intro hb a h j h1 h2
    rcases Nat.lt_or_ge j b with hj | hj
    · rcases h.inv with rfl | ⟨c, e, l, g⟩
      · omega
      · obtain ⟨u, e', l', g'⟩ := hs.2 b (by omega) hb
        obtain rfl : c = u := by omega
        exact ih (b - 1) (by omega) (by omega) a (g.trans g') j h1 (by omega)
    · obtain rfl : j = b := by omega
      exact h
theorem abv0 {n : Nat} (hs : Sp nv n) : ∀ b, b < n → Abv nv 0 b := by
  intro b
  induction b using Nat.strongRecOn with
  | _ b ih =>
    intro hb
    rcases Nat.eq_zero_or_pos b with rfl | h0
    · exact .self
    · obtain ⟨u, e, l, g⟩ := hs.2 b h0 hb
      exact .up e l (ih u l (by omega))

/-- A node is as it has to be: its kind, its leaves, and, but of the first one, where it hangs and begins. -/
structure okN (nv : Nat → Nd) (i : Nat) : Prop where
  k1 : 1 ≤ (nv i).k
  k2 : (nv i).k ≤ 18
  ft : (nv i).f ≤ (nv i).t
  hang : 0 < i → ∃ u : Nat, (nv i).u = (u : Int) ∧ u < i ∧ Abv nv u (i - 1) ∧ (nv u).f ≤ (nv i).f ∧ (nv i).t ≤ (nv u).t ∧ ∀ k, 0 < k → k < i → (nv k).u = (u : Int) → (nv k).t ≤ (nv i).f
/-- A right tree of n nodes. -/
structure Rt (nv : Nat → Nd) (n : Nat) (leaves : Int) : Prop where
  pos : 0 < n
  u0 : (nv 0).u = -1
  f0 : (nv 0).f = 0
  t0 : (nv 0).t = leaves
  ok : ∀ i, i < n → okN nv i
theorem sp_of {n : Nat} (h0 : (nv 0).u = -1) (h : ∀ i, i < n → okN nv i) : Sp nv n :=
  ⟨h0, fun i hp hi => by
    obtain ⟨u, e, l, g, _⟩ := (h i hi).hang hp
    exact ⟨u, e, l, g⟩⟩
theorem Rt.sp {n : Nat} {lv : Int} (h : Rt nv n lv) : Sp nv n := sp_of h.u0 h.ok
theorem nest {n : Nat} (h : ∀ i, i < n → okN nv i) : ∀ b, b < n → ∀ a, Abv nv a b → (nv a).f ≤ (nv b).f ∧ (nv b).t ≤ (nv a).t := by
  intro b
  induction b using Nat.strongRecOn with
  | _ b ih =>
    intro hb a g
    rcases g.inv with rfl | ⟨c, e, l, g'⟩
    · exact ⟨Int.le_refl _, Int.le_refl _⟩
    · obtain ⟨u, e', l', _, f', t', _⟩ := (h b hb).hang (by omega)
      obtain rfl : c = u := by omega
      have := ih c l (by omega) a g'
      omega
/-- Where a node goes up to another one by steps: the last step but one. -/
theorem step_to {u b : Nat} (h : Abv nv u b) (hne : u ≠ b) : ∃ e, Abv nv e b ∧ (nv e).u = (u : Int) ∧ u < e := by
  induction h with
  | self => exact absurd rfl hne
  | @up b c e l g ih =>
    rcases Classical.em (u = c) with rfl | hc
    · exact ⟨b, .self, e, l⟩
    · obtain ⟨d, h1, h2, h3⟩ := ih hc
      exact ⟨d, .up e l h1, h2, h3⟩
/-- Of sisters the one that is above the node right ahead is the last. -/
theorem last_sister {n i e k : Nat} {u : Nat} (hs : Sp nv n) (hi : i ≤ n) (he : Abv nv e (i - 1)) (hu : (nv e).u = (u : Int)) (hk : k < i) (hku : (nv k).u = (u : Int)) (hue : u < e) : k ≤ e := by
  rcases Nat.lt_or_ge e k with h | h
  · have g := contig hs (i - 1) (by omega) e he k (by omega) (by omega)
    rcases g.inv with rfl | ⟨c, e1, l1, g1⟩
    · omega
    · have := g1.le; omega
  · exact h
/-- What is right where the way up ends. -/
theorem hangs_none {i : Nat} (h : (nv 0).u = -1) (hok : ∀ j, j < i → okN nv j) (hi : 0 < i) (hu : (nv i).u = ((i - 1 : Nat) : Int)) (k1 : 1 ≤ (nv i).k) (k2 : (nv i).k ≤ 18) (ft : (nv i).f ≤ (nv i).t) :
    okN nv i ↔ ((nv (i - 1)).f ≤ (nv i).f ∧ (nv i).t ≤ (nv (i - 1)).t) := by
  have hs := sp_of h hok
  constructor
  · intro g
    obtain ⟨u, e, l, _, f', t', _⟩ := g.hang hi
    obtain rfl : u = i - 1 := by omega
    exact ⟨f', t'⟩
  · rintro ⟨g1, g2⟩
    refine ⟨k1, k2, ft, fun _ => ⟨i - 1, hu, by omega, .self, g1, g2, fun k h0 hk hku => ?_⟩⟩
    obtain ⟨u, e, l, _⟩ := hs.2 k h0 hk
    omega
theorem hangs_elder {i e : Nat} {u : Nat} (h : (nv 0).u = -1) (hok : ∀ j, j < i → okN nv j) (hi : 0 < i) (he : Abv nv e (i - 1)) (heu : (nv e).u = (u : Int)) (hu : (nv i).u = (u : Int)) (k1 : 1 ≤ (nv i).k) (k2 : (nv i).k ≤ 18) (ft : (nv i).f ≤ (nv i).t) :
    okN nv i ↔ ((nv e).t ≤ (nv i).f ∧ (nv i).t ≤ (nv u).t) := by
  have hs := sp_of h hok
  have hei := he.le
  have he0 : 0 < e := by
    rcases Nat.eq_zero_or_pos e with rfl | g
    · omega
    · exact g
  obtain ⟨u', e', l', g', fe, te, se⟩ := (hok e (by omega)).hang he0
  obtain rfl : u' = u := by omega
  have hue : Abv nv u' (i - 1) := (Abv.up e' l' .self).trans he
  constructor
  · intro g
    obtain ⟨u2, e2, l2, _, f2, t2, s2⟩ := g.hang hi
    obtain rfl : u2 = u' := by omega
    exact ⟨s2 e he0 (by omega) heu, t2⟩
  · rintro ⟨g1, g2⟩
    have hft := (hok e (by omega)).ft
    refine ⟨k1, k2, ft, fun _ => ⟨u', hu, by omega, hue, by omega, g2, fun k h0 hk hku => ?_⟩⟩
    have := last_sister hs (Nat.le_refl _) he heu hk hku l'
    rcases Nat.lt_or_ge k e with h3 | h3
    · have := se k h0 h3 hku
      omega
    · obtain rfl : k = e := by omega
      exact g1
/-- Two nodes of which none is above the other one: the elder one ends ahead. -/
theorem apart {n : Nat} {lv : Int} (h : Rt nv n lv) : ∀ b, b < n → ∀ k, k < b → ¬ Abv nv k b → (nv k).t ≤ (nv b).f := by
  have hs := h.sp
  intro b
  induction b using Nat.strongRecOn with
  | _ b ih =>
    intro hb k hk hn
    obtain ⟨u, e, l, g, f', t', s'⟩ := (h.ok b hb).hang (by omega)
    have hku : ¬ Abv nv k u := fun g' => hn (.up e l g')
    rcases Classical.em (u = b - 1) with hub | hub
    · rcases Nat.lt_or_ge k (b - 1) with h1 | h1
      · have := ih (b - 1) (by omega) (by omega) k h1 (by rw [← hub]; exact hku)
        rw [hub] at f'
        omega
      · obtain rfl : k = b - 1 := by omega
        exact absurd (hub ▸ Abv.self) hku
    · obtain ⟨d, hd, hdu, hud⟩ := step_to g hub
      have hd1 := hd.le
      have hdt := s' d (by omega) (by omega) hdu
      rcases Classical.em (Abv nv k (b - 1)) with hk1 | hk1
      · rcases Nat.lt_or_ge k d with h1 | h1
        · have h2 := hk1.tot hd (by omega)
          rcases h2.inv with rfl | ⟨c, e1, l1, g1⟩
          · omega
          · obtain rfl : c = u := by omega
            exact absurd g1 hku
        · have h2 := hd.tot hk1 h1
          have := nest h.ok k (by omega) d h2
          omega
      · have hkb : k < b - 1 := by
          rcases Nat.lt_or_ge k (b - 1) with h1 | h1
          · exact h1
          · obtain rfl : k = b - 1 := by omega
            exact absurd .self hk1
        have h1 := ih (b - 1) (by omega) (by omega) k hkb hk1
        have h2 := nest h.ok (b - 1) (by omega) d hd
        have h3 := (h.ok (b - 1) (by omega)).ft
        omega

/-- e is where what is below i ends. -/
structure IsEnd (nv : Nat → Nd) (n i e : Nat) : Prop where
  lt : i < e
  le : e ≤ n
  below : ∀ k, i < k → k < e → (i : Int) ≤ (nv k).u
  stop : e < n → (nv e).u < (i : Int)
theorem end_below {n i e : Nat} (hs : Sp nv n) (he : IsEnd nv n i e) : ∀ k, k < e → i ≤ k → Abv nv i k := by
  intro k
  induction k using Nat.strongRecOn with
  | _ k ih =>
    intro hk hik
    rcases Nat.lt_or_ge i k with h | h
    · have hb := he.below k h hk
      obtain ⟨u, e1, l1, g1⟩ := hs.2 k (by omega) (by have := he.le; omega)
      exact .up e1 l1 (ih u l1 (by omega) (by omega))
    · obtain rfl : i = k := by omega
      exact .self
theorem end_iff {n i e k : Nat} (hs : Sp nv n) (he : IsEnd nv n i e) (hk : k < n) : Abv nv i k ↔ (i ≤ k ∧ k < e) := by
  constructor
  · intro h
    refine ⟨h.le, ?_⟩
    rcases Nat.lt_or_ge k e with h1 | h1
    · exact h1
    · have g := contig hs k hk i h e (by have := he.lt; omega) h1
      have := he.stop (by omega)
      rcases g.inv with rfl | ⟨c, e1, l1, g1⟩
      · have := he.lt; omega
      · have := g1.le; omega
  · rintro ⟨h1, h2⟩
    exact end_below hs he k h2 h1
theorem IsEnd.one {n i e e' : Nat} (h : IsEnd nv n i e) (h' : IsEnd nv n i e') : e = e' := by
  rcases Nat.lt_trichotomy e e' with g | g | g
  · have h1 := h.stop (by have := h'.le; omega)
    have h2 := h'.below e h.lt g
    omega
  · exact g
  · have h1 := h'.stop (by have := h.le; omega)
    have h2 := h.below e' h'.lt g
    omega

/-- A node, the one above it, and so on. -/
def chn (nv : Nat → Nd) (b : Nat) : List Nat :=
  if h : 0 ≤ (nv b).u ∧ (nv b).u.toNat < b then b :: chn nv (nv b).u.toNat else [b]
termination_by b
decreasing_by exact h.2
theorem chn_up {b c : Nat} (h : (nv b).u = (c : Int)) (hc : c < b) : chn nv b = b :: chn nv c := by
  rw [chn, dif_pos ⟨by omega, by omega⟩, show (nv b).u.toNat = c from by omega]
theorem chn_top {b : Nat} (h : (nv b).u < 0) : chn nv b = [b] := by
  rw [chn, dif_neg (by omega)]
theorem chn_head (b : Nat) : ∃ r, chn nv b = b :: r := by
  rw [chn]
  split
  · exact ⟨_, rfl⟩
  · exact ⟨_, rfl⟩
theorem mem_chn {x : Nat} : ∀ b, x ∈ chn nv b ↔ Abv nv x b := by
  intro b
  induction b using Nat.strongRecOn with
  | _ b ih =>
    rcases Classical.em (0 ≤ (nv b).u ∧ (nv b).u.toNat < b) with h | h
    · rw [chn_up (c := (nv b).u.toNat) (by omega) h.2, List.mem_cons, ih _ h.2]
      constructor
      · rintro (rfl | g)
        · exact .self
        · exact .up (by omega) h.2 g
      · intro g
        rcases g.inv with rfl | ⟨c, e, l, g'⟩
        · exact .inl rfl
        · exact .inr (by rw [show (nv b).u.toNat = c from by omega]; exact g')
    · rw [chn, dif_neg h, List.mem_singleton]
      constructor
      · rintro rfl; exact .self
      · intro g
        rcases g.inv with rfl | ⟨c, e, l, g'⟩
        · rfl
        · omega
/-- The nodes from one up to ahead of one that is above it. -/
theorem chn_split {u : Nat} : ∀ b, Abv nv u b → ∃ p, chn nv b = p ++ chn nv u ∧ (∀ x ∈ p, u < x ∧ Abv nv x b) ∧ (u ≠ b → ∃ r, p = b :: r ∧ ∀ x ∈ r, x < b) := by
  intro b h
  induction h with
  | self => exact ⟨[], rfl, (fun x hx => by simp at hx), (fun h => absurd rfl h)⟩
  | @up b c e l g ih =>
    obtain ⟨p, h1, h2, h3⟩ := ih
    refine ⟨b :: p, by rw [chn_up e l, h1]; rfl, fun x hx => ?_, fun _ => ⟨p, rfl, fun x hx => ?_⟩⟩
    · rcases List.mem_cons.1 hx with rfl | hx
      · exact ⟨by have := g.le; omega, .self⟩
      · exact ⟨(h2 x hx).1, .up e l (h2 x hx).2⟩
    · have := (h2 x hx).2.le; omega
/-- Those that are told ahead of a node: the nodes right ahead of it, up to its Up. -/
def pops (nv : Nat → Nd) (i : Nat) : List Nat := (chn nv (i - 1)).takeWhile (fun x => !decide ((x : Int) = (nv i).u))
theorem pops_split {n i : Nat} (hs : Sp nv n) (h0 : 0 < i) (hi : i < n) : ∃ u : Nat, (nv i).u = (u : Int) ∧ u < i ∧ Abv nv u (i - 1) ∧ chn nv (i - 1) = pops nv i ++ chn nv u ∧ (∀ x ∈ pops nv i, u < x ∧ Abv nv x (i - 1)) ∧ (u ≠ i - 1 → ∃ r, pops nv i = (i - 1) :: r ∧ ∀ x ∈ r, x < i - 1) ∧ (u = i - 1 → pops nv i = []) := by
  obtain ⟨u, e, l, g⟩ := hs.2 i h0 hi
  obtain ⟨p, h1, h2, h3⟩ := chn_split (i - 1) g
  have hp : pops nv i = p := by
    unfold pops
    rw [h1, List.takeWhile_append_of_pos (fun x hx => by have := (h2 x hx).1; simp; omega)]
    obtain ⟨r, hr⟩ := chn_head (nv := nv) u
    rw [hr, List.takeWhile_cons, if_neg (by simp; omega), List.append_nil]
  rw [hp]
  refine ⟨u, e, l, g, h1, h2, h3, fun h => ?_⟩
  cases p with
  | nil => rfl
  | cons x p =>
    have h4 := h2 x (List.mem_cons_self ..)
    have := h4.2.le
    omega
/-- Those that have been told when a node comes. -/
def yl (nv : Nat → Nd) : Nat → List Nat
  | 0 => []
  | i + 1 => yl nv i ++ pops nv (i + 1)
/-- All nodes, each behind those below it. -/
def ups (nv : Nat → Nd) (n : Nat) : List Nat := if n = 0 then [] else yl nv (n - 1) ++ chn nv (n - 1)
theorem chn_push {n i : Nat} (hs : Sp nv n) (h0 : 0 < i) (hi : i < n) : ∃ u : Nat, (nv i).u = (u : Int) ∧ u < i ∧ chn nv i = i :: chn nv u ∧ chn nv (i - 1) = pops nv i ++ chn nv u := by
  obtain ⟨u, e, l, g, h1, _⟩ := pops_split hs h0 hi
  exact ⟨u, e, l, chn_up e l, h1⟩
theorem yl_len {n : Nat} (hs : Sp nv n) : ∀ i, i < n → (yl nv i ++ chn nv i).length = i + 1 := by
  intro i
  induction i with
  | zero => intro _; rw [chn_top (by rw [hs.1]; decide)]; rfl
  | succ i ih =>
    intro hi
    obtain ⟨u, e, l, h1, h2⟩ := chn_push hs (Nat.succ_pos i) hi
    have := ih (by omega)
    rw [show i + 1 - 1 = i from rfl] at h2
    rw [h2] at this
    rw [h1]
    show (yl nv i ++ pops nv (i + 1) ++ i.succ :: chn nv u).length = _
    simp only [List.length_append, List.length_cons] at this ⊢
    have e : pops nv i.succ = pops nv (i + 1) := rfl
    rw [e] at this
    omega
/-- In this order two nodes may come. -/
def Bf (nv : Nat → Nd) (a b : Nat) : Prop := a ≠ b ∧ ¬ Abv nv a b ∧ ¬ ((nv a).u = (nv b).u ∧ b < a)
theorem yl_pair {n : Nat} (hs : Sp nv n) : ∀ i, i < n → (yl nv i ++ chn nv i).Pairwise (Bf nv) ∧ ∀ x ∈ yl nv i ++ chn nv i, x ≤ i := by
  intro i
  induction i with
  | zero =>
    intro _
    rw [chn_top (by rw [hs.1]; decide)]
    refine ⟨by simp [yl], fun x hx => ?_⟩
    simp [yl] at hx
    omega
  | succ i ih =>
    intro hi
    obtain ⟨u, e, l, g, h2, h3, _, _⟩ := pops_split hs (Nat.succ_pos i) hi
    have h1 := chn_up e l
    obtain ⟨ih1, ih2⟩ := ih (by omega)
    rw [show i + 1 - 1 = i from rfl] at h2 h3 g
    rw [h2] at ih1 ih2
    rw [h1]
    simp only [yl]
    rw [← List.append_assoc] at ih1 ih2
    obtain ⟨q1, q2, q3⟩ := List.pairwise_append.1 ih1
    refine ⟨List.pairwise_append.2 ⟨q1, List.pairwise_cons.2 ⟨fun p hp => ?_, q2⟩, fun y hy z hz => ?_⟩, fun x hx => ?_⟩
    · have hpu := (mem_chn u).1 hp
      have hle := hpu.le
      refine ⟨by omega, fun h => by have := h.le; omega, fun h => ?_⟩
      rcases Nat.eq_zero_or_pos p with rfl | hp0
      · have := hs.1; omega
      · obtain ⟨v, e', l', _⟩ := hs.2 p hp0 (by omega)
        omega
    · rcases List.mem_cons.1 hz with rfl | hz
      · have hyi := ih2 y (List.mem_append_left _ hy)
        refine ⟨by omega, fun h => ?_, fun h => by omega⟩
        rcases h.inv with rfl | ⟨c, e', l', g'⟩
        · omega
        · obtain rfl : c = u := by omega
          exact (q3 y hy y ((mem_chn c).2 g')).1 rfl
      · exact q3 y hy z hz
    · rcases List.mem_append.1 hx with hx | hx
      · have := ih2 x (List.mem_append_left _ hx); omega
      · rcases List.mem_cons.1 hx with rfl | hx
        · exact Nat.le_refl _
        · have := ih2 x (List.mem_append_right _ hx); omega
theorem ups_len {n : Nat} (hs : Sp nv n) : (ups nv n).length = n := by
  unfold ups
  split
  · rename_i h; rw [h]; rfl
  · rw [yl_len hs _ (by omega)]; omega
theorem ups_pair {n : Nat} (hs : Sp nv n) : (ups nv n).Pairwise (Bf nv) := by
  unfold ups
  split
  · exact .nil
  · exact (yl_pair hs _ (by omega)).1
theorem ups_lt {n : Nat} (hs : Sp nv n) : ∀ x ∈ ups nv n, x < n := by
  intro x hx
  unfold ups at hx
  split at hx
  · cases hx
  · have := (yl_pair hs (n - 1) (by omega)).2 x hx; omega
theorem ups_bf {n i k a b : Nat} (hs : Sp nv n) (hk : k < i) (ha : (ups nv n)[k]? = some a) (hb : (ups nv n)[i]? = some b) : Bf nv a b := by
  obtain ⟨h1, h2⟩ := List.getElem?_eq_some_iff.1 ha
  obtain ⟨h3, h4⟩ := List.getElem?_eq_some_iff.1 hb
  have := List.pairwise_iff_getElem.1 (ups_pair hs) k i h1 h3 hk
  rwa [h2, h4] at this
end

/-- Those of the first numbers that are so, in their order. -/
def selN (P : Nat → Bool) (n : Nat) : List Nat := (List.range n).filter P
theorem selN_succ (P : Nat → Bool) (n : Nat) : selN P (n + 1) = selN P n ++ (if P n then [n] else []) := by
  unfold selN
  rw [List.range_succ, List.filter_append]
  congr 1
  simp only [List.filter_cons, List.filter_nil]
theorem selN_len (P : Nat → Bool) (n : Nat) : (selN P n).length ≤ n := by
  unfold selN
  exact Nat.le_trans (List.length_filter_le _ _) (by simp)
theorem selN_pre (P : Nat → Bool) (i : Nat) : ∀ d, selN P i <+: selN P (i + d) := by
  intro d
  induction d with
  | zero => exact List.prefix_refl _
  | succ d ih =>
    rw [show i + (d + 1) = (i + d) + 1 from rfl, selN_succ]
    exact ih.trans (List.prefix_append _ _)
/-- The number that is so stands where as many are ahead of it. -/
theorem selN_at {P : Nat → Bool} {i n : Nat} (h : P i = true) (hi : i < n) : (selN P n)[(selN P i).length]? = some i := by
  have h1 : selN P (i + 1) = selN P i ++ [i] := by rw [selN_succ, if_pos h]
  have h2 := selN_pre P (i + 1) (n - (i + 1))
  rw [show i + 1 + (n - (i + 1)) = n from by omega, h1] at h2
  obtain ⟨r, hr⟩ := h2
  rw [← hr, List.append_assoc, List.getElem?_append_right (Nat.le_refl _), Nat.sub_self]
  rfl
theorem selN_congr {P Q : Nat → Bool} {n : Nat} (h : ∀ i, i < n → P i = Q i) : selN P n = selN Q n := by
  unfold selN
  exact List.filter_congr (fun x hx => h x (List.mem_range.1 hx))
end Go.Proofs.YtdiolfniaiojfaaDoor

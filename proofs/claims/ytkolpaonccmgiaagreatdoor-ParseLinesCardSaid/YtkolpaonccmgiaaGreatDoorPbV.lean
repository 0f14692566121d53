/- Two rows of leaves with a newline between them: the tree of all is clean, and has as many pipes as both; plainly. No condition: nothing here speaks of the program. -/
import Derived.Test.YtkolpaonccmgiaaGreatDoorPbU
namespace Go.Proofs.YtkolpaonccmgiaaGreatDoor.Q
open Go.RowKit
set_option linter.unusedVariables false

section
variable {n : Nat} {lv : Nat → Lf}
theorem isS_nl {s : PS} : isS n lv [110] s = decide (sgA n lv s.a = 110) := by
  unfold isS
  rw [Bool.eq_iff_iff]
  simp
theorem nls_inv {p : PP} {s s' : PS} (h : Ev n lv p s s') (hp : p = nlsP n lv) : s'.L = s.L ∧ s'.d = s.d ∧ s'.u = s.u ∧ (∀ i, s.a ≤ i → i < s'.a → sgA n lv i = 110) ∧ sgA n lv s'.a ≠ 110 := by
  induction h with
  | skip => cases hp
  | adv => cases hp
  | lst _ _ => cases hp
  | node _ _ => cases hp
  | seq _ _ _ _ => cases hp
  | yes _ _ _ => cases hp
  | no _ _ _ => cases hp
  | stop hc =>
    unfold nlsP at hp
    injection hp with h1 h2 h3 h4
    rw [h1, isS_nl] at hc
    exact ⟨rfl, rfl, rfl, fun i h1 h2 => by omega, of_decide_eq_false hc⟩
  | out _ _ hd _ =>
    unfold nlsP at hp
    injection hp with h1 h2 h3 h4
    rw [h3] at hd
    cases hd
  | go hc hb _ ht _ _ _ ih =>
    have ih' := ih hp
    unfold nlsP at hp
    injection hp with h1 h2 h3 h4
    rw [h1, isS_nl] at hc
    subst h2 h4
    cases hb
    cases ht
    simp only [nxt] at ih'
    obtain ⟨g1, g2, g3, g4, g5⟩ := ih'
    refine ⟨g1, g2, g3, fun i h1 h2 => ?_, g5⟩
    rcases Nat.eq_or_lt_of_le h1 with e | e
    · rw [← e]; exact of_decide_eq_true hc
    · exact g4 i e h2
theorem nls_run : ∀ (k : Nat) (s : PS), (∀ i, s.a ≤ i → i < s.a + k → sgA n lv i = 110) → sgA n lv (s.a + k) ≠ 110 → Ev n lv (nlsP n lv) s ⟨s.a + k, s.L, s.u, s.d⟩
  | 0, s, _, h => .stop (by rw [isS_nl]; exact decide_eq_false h)
  | k + 1, s, hi, h => by
    have h1 := nls_run k (nxt s) (fun i h1 h2 => hi i (by simp only [nxt] at h1; omega) (by simp only [nxt] at h2; omega)) (by simp only [nxt]; rw [Nat.add_assoc, Nat.add_comm 1 k]; exact h)
    have e : (⟨(nxt s).a + k, (nxt s).L, (nxt s).u, (nxt s).d⟩ : PS) = ⟨s.a + (k + 1), s.L, s.u, s.d⟩ := by simp only [nxt]; rw [Nat.add_assoc, Nat.add_comm 1 k]
    rw [e] at h1
    exact .go (by rw [isS_nl]; exact decide_eq_true (hi _ (Nat.le_refl _) (by omega))) .adv rfl .skip h1
theorem nls_to {s : PS} {e : Nat} (h : s.a ≤ e) (hi : ∀ i, s.a ≤ i → i < e → sgA n lv i = 110) (he : sgA n lv e ≠ 110) : Ev n lv (nlsP n lv) s ⟨e, s.L, s.u, s.d⟩ := by
  have h1 := nls_run (n := n) (lv := lv) (e - s.a) s (fun i h1 h2 => hi i h1 (by omega)) (by rw [show s.a + (e - s.a) = e by omega]; exact he)
  rw [show s.a + (e - s.a) = e by omega] at h1
  exact h1
/-- A List's rounds. -/
def rlP (n : Nat) (lv : Nat → Lf) : PP := .rep (isS n lv [59, 38, 110]) (.seq .adv (nlsP n lv)) (pipT n lv) (andP n lv)
theorem rl_end {p : PP} {s s' : PS} (h : Ev n lv p s s') (hp : p = rlP n lv) : sgA n lv s'.a ≠ 110 := by
  induction h with
  | skip => cases hp
  | adv => cases hp
  | lst _ _ => cases hp
  | node _ _ => cases hp
  | seq _ _ _ _ => cases hp
  | yes _ _ _ => cases hp
  | no _ _ _ => cases hp
  | stop hc =>
    unfold rlP at hp
    injection hp with h1 h2 h3 h4
    rw [h1] at hc
    intro e
    unfold isS at hc
    rw [e] at hc
    simp at hc
  | out _ hb hd _ =>
    unfold rlP at hp
    injection hp with h1 h2 h3 h4
    subst h2
    cases hb with | seq _ h2 => exact (nls_inv h2 rfl).2.2.2.2
  | go _ _ _ _ _ _ _ ih => exact ih hp
theorem list_end {s s' : PS} (h : Ev n lv (listP n lv) s s') : sgA n lv s'.a ≠ 110 := by
  cases h with | node h => cases h with | seq _ h =>
    have e := rl_end (p := rlP n lv) h rfl
    exact e
theorem ltT_le {s : PS} (h : ltT n s = false) : n ≤ s.a := by
  have := of_decide_eq_false h
  omega
/-- What a clean program is: newlines, and a List that ends where the leaves end, if any. -/
theorem prg_inv {p : PP} {s s' : PS} (h : Ev n lv p s s') (hp : p = prgP n lv) : ∀ ks, s'.a ≤ n → Kn s s' ks → okK ks →
    ∃ b, s.a ≤ b ∧ b ≤ n ∧ (∀ i, s.a ≤ i → i < b → sgA n lv i = 110) ∧ ((b = n ∧ ks = []) ∨ (sgA n lv b ≠ 110 ∧ pipT n lv ⟨b, s.L, s.u, s.d⟩ = true ∧ ∃ s1, Ev n lv (listP n lv) ⟨b, s.L, s.u, s.d⟩ s1 ∧ s1.a = n ∧ Kn ⟨b, s.L, s.u, s.d⟩ s1 ks)) := by
  induction h with
  | skip => cases hp
  | adv => cases hp
  | lst _ _ => cases hp
  | node _ _ => cases hp
  | seq _ _ _ _ => cases hp
  | yes _ _ _ => cases hp
  | no _ _ _ => cases hp
  | @stop c d b t s hc =>
    unfold prgP at hp
    injection hp with h1 h2 h3 h4
    rw [h1] at hc
    intro ks ha hK ho
    have := ltT_le hc
    exact ⟨s.a, Nat.le_refl _, ha, fun i h1 h2 => by omega, .inl ⟨by omega, hK.one (Kn.refl _)⟩⟩
  | out _ _ hd _ =>
    unfold prgP at hp
    injection hp with h1 h2 h3 h4
    rw [h3] at hd
    cases hd
  | @go c d b t s s1 s2 s' hc hb _ ht hr _ _ ih =>
    have ih' := ih hp
    have hp0 := hp
    unfold prgP at hp
    injection hp with h1 h2 h3 h4
    rw [h1] at hc
    have hlt : s.a < n := of_decide_eq_true hc
    clear ih
    subst h2 h4
    cases ht
    intro ks ha hK ho
    have qr := hr.kp.a
    cases hb with
    | yes hn h =>
      cases h
      obtain ⟨b, g1, g2, g3, g4⟩ := ih' ks ha (hK.same rfl rfl) ho
      simp only [nxt] at g1 g3 g4
      rw [isS_nl] at hn
      refine ⟨b, by omega, g2, fun i h1 h2 => ?_, g4⟩
      rcases Nat.eq_or_lt_of_le h1 with e | e
      · rw [← e]; exact of_decide_eq_true hn
      · exact g3 i e h2
    | no hn h => cases h with
      | no _ h =>
        obtain ⟨k2, hk2⟩ := hr.kn
        cases h with | node h =>
        obtain ⟨k1, hk1⟩ := h.kn
        obtain rfl := hK.one ((kn_fin hk1).trans hk2)
        exact absurd rfl (ho.l 17 (List.mem_cons_self ..)).1
      | yes hpip h => cases h with | @seq _ _ _ r1 _ h1 h2 => cases h2 with | @seq _ _ _ r2 _ h2 h3 =>
        cases h1 with | lst h1 =>
        obtain ⟨e1, e2, e3, e4, e5⟩ := nls_inv h2 rfl
        have q1 := h1.kp.a
        have q2 := h2.kp.a
        have q3 := h3.kp.a
        have hr1 : r2.a = r1.a := by
          rcases Nat.lt_or_ge r1.a r2.a with g | g
          · exact absurd (e4 r1.a (Nat.le_refl _) g) (list_end h1)
          · omega
        rw [isS_nl] at hn
        obtain ⟨k1, hk1⟩ := h1.kn
        obtain ⟨k3, hk3⟩ := hr.kn
        have hk12 : Kn s r2 k1 := hk1.same rfl e1
        cases h3 with
        | yes _ h =>
          cases h with | node h =>
          obtain ⟨k2, hk2⟩ := h.kn
          obtain rfl := hK.one ((hk12.trans (kn_fin hk2)).trans hk3)
          exact absurd rfl (ho.l.r 17 (List.mem_cons_self ..)).1
        | no hl h =>
          cases h
          obtain rfl := hK.one (hk12.trans hk3)
          have hge := ltT_le hl
          have hk30 : k3 = [] := by
            obtain ⟨b', g1, g2, g3, g4⟩ := ih' k3 ha hk3 ho.r
            rcases g4 with ⟨_, g⟩ | ⟨_, g, _⟩
            · exact g
            · have := pip_le g
              simp only at this
              omega
          subst hk30
          refine ⟨s.a, Nat.le_refl _, by omega, fun i h1 h2 => by omega, .inr ⟨of_decide_eq_false hn, hpip, r1, h1, by omega, ?_⟩⟩
          rw [List.append_nil]
          exact hk1
theorem prg_nls : ∀ (k : Nat) (s s' : PS), (∀ i, s.a ≤ i → i < s.a + k → sgA n lv i = 110 ∧ i < n) → Ev n lv (prgP n lv) ⟨s.a + k, s.L, s.u, s.d⟩ s' → Ev n lv (prgP n lv) s s'
  | 0, s, s', _, h => h
  | k + 1, s, s', hi, h => by
    have h0 := hi s.a (Nat.le_refl _) (by omega)
    refine .go (decide_eq_true h0.2) (.yes (by rw [isS_nl]; exact decide_eq_true h0.1) .adv) rfl .skip ?_
    refine prg_nls k (nxt s) s' (fun i h1 h2 => hi i (by simp only [nxt] at h1; omega) (by simp only [nxt] at h2; omega)) ?_
    simp only [nxt]
    rw [show s.a + 1 + k = s.a + (k + 1) by omega]
    exact h
theorem prg_list {s s1 : PS} (hp : pipT n lv s = true) (hn : sgA n lv s.a ≠ 110) (h : Ev n lv (listP n lv) s s1) (he : n ≤ s1.a) : Ev n lv (prgP n lv) s s1 := by
  have hl : ltT n s1 = false := decide_eq_false (by omega)
  have hs : isS n lv [110] s1 = false := by
    rw [isS_nl]
    refine decide_eq_false ?_
    unfold sgA lfA
    rw [if_neg (by omega)]
    decide
  exact .go (decide_eq_true (pip_le hp)) (.no (by rw [isS_nl]; exact decide_eq_false hn) (.yes hp (.seq (.lst h) (.seq (.stop hs) (.no hl .skip))))) rfl .skip (.stop hl)
end
section
variable {n1 n2 m : Nat} {av bv zv : Nat → Lf}
/-- What comes behind the newline: newlines, and a List, if any. -/
structure Tail (n2 : Nat) (bv : Nat → Lf) (b : Nat) (kb : List Int) : Prop where
  le : b ≤ n2
  nl : ∀ i, i < b → sgA n2 bv i = 110
  cs : (b = n2 ∧ kb = []) ∨ (sgA n2 bv b ≠ 110 ∧ ∃ s s1 : PS, s.a = b ∧ s.d = 0 ∧ pipT n2 bv s = true ∧ Ev n2 bv (lsbP n2 bv) s s1 ∧ s1.a = n2 ∧ Kn s s1 kb)
variable (hA : Emb true n1 av m zv 0) (hB : Emb false n2 bv m zv (n1 + 1)) (hm : m = n1 + 1 + n2)
include hA hB hm
omit hm in
theorem z_nl {b i : Nat} {kb : List Int} (hT : Tail n2 bv b kb) (h1 : n1 ≤ i) (h2 : i < n1 + 1 + b) : sgA m zv i = 110 := by
  rcases Nat.eq_or_lt_of_le h1 with e | e
  · rw [← e]; exact hA.sg
  · have hl := hT.le
    rw [emb_sg hB (i := i - (n1 + 1)) (by omega) (by omega)]
    exact hT.nl _ (by omega)
omit hA hm in
theorem z_end {b : Nat} {kb : List Int} (hT : Tail n2 bv b kb) : sgA m zv (n1 + 1 + b) ≠ 110 := by
  have hl := hT.le
  rcases hT.cs with ⟨e, _⟩ | ⟨h, _⟩
  · rw [e, Nat.add_comm, hB.sg]; decide
  · rcases Nat.lt_or_ge b n2 with g | g
    · rw [emb_sg hB (i := b) (by omega) g]; exact h
    · obtain rfl : b = n2 := by omega
      rw [Nat.add_comm, hB.sg]; decide
theorem fin_loop {z : PS} {b : Nat} {kb : List Int} (hT : Tail n2 bv b kb) (ho : okK kb) (hc : isS m zv [59, 38, 110] z = true) (ha : z.a < n1 + 1) (hd : z.d = 0) (hi : ∀ i, z.a + 1 ≤ i → i < n1 + 1 → sgA m zv i = 110) :
    ∃ z', Ev m zv (rlP m zv) z z' ∧ z'.a = m ∧ z'.d = 0 ∧ Kn z z' kb := by
  have hl := hT.le
  have h1 : Ev m zv (.seq .adv (nlsP m zv)) z ⟨n1 + 1 + b, z.L, z.u, z.d⟩ := by
    refine .seq .adv ?_
    refine nls_to (s := nxt z) (by simp only [nxt]; omega) (fun i h1 h2 => ?_) (z_end hB hT)
    rcases Nat.lt_or_ge i (n1 + 1) with g | g
    · exact hi i h1 g
    · exact z_nl hA hB hT (by omega) h2
  rcases hT.cs with ⟨e, e'⟩ | ⟨_, s, s1, sa, sd, hp, hE, se, hK⟩
  · subst e'
    refine ⟨_, .out hc h1 ?_, by simp only; omega, hd, Kn.refl _⟩
    exact (emb_pip hB ⟨n2, [], 0, z.d⟩ ⟨n1 + 1 + b, z.L, z.u, z.d⟩ (by simp only; omega) rfl (Nat.le_refl _)).trans (out_pip _ rfl)
  · obtain ⟨z', g1, g2, g3, g4⟩ := sim_lsb (z := ⟨n1 + 1 + b, z.L, z.u, z.d⟩) hB hE (by omega) hK ho (by simp only; omega) (by simp only; omega)
    cases g1 with | seq g1 g1' =>
    refine ⟨z', .go hc h1 ?_ g1 g1', by omega, ?_, g4.same rfl rfl⟩
    · exact (emb_pip hB s ⟨n1 + 1 + b, z.L, z.u, z.d⟩ (by simp only; omega) (by simp only; omega) (by omega)).trans hp
    · have := hE.kp.d
      omega
theorem loop_z {b : Nat} {kb : List Int} (hT : Tail n2 bv b kb) (hob : okK kb) {p : PP} {s s' : PS} (h : Ev n1 av p s s') (hp : p = rlP n1 av) : ∀ ks, s'.a = n1 → s.d = 0 → Kn s s' ks → okK ks → ∀ z : PS, z.a = s.a → z.d = 0 →
    ∃ z', Ev m zv (rlP m zv) z z' ∧ z'.a = m ∧ z'.d = 0 ∧ Kn z z' (ks ++ kb) := by
  induction h with
  | skip => cases hp
  | adv => cases hp
  | lst _ _ => cases hp
  | node _ _ => cases hp
  | seq _ _ _ _ => cases hp
  | yes _ _ _ => cases hp
  | no _ _ _ => cases hp
  | @stop c d b t s hc =>
    intro ks ha hd hK ho z za zd
    obtain rfl := hK.one (Kn.refl _)
    refine fin_loop hA hB hm hT hob ?_ (by omega) zd (fun i h1 h2 => by omega)
    unfold isS
    rw [za, ha, show n1 = n1 + 0 from rfl, hA.sg]
    rfl
  | @out c d b t s s' hc hb hdd _ =>
    unfold rlP at hp
    injection hp with h1 h2 h3 h4
    rw [h1] at hc
    subst h2
    intro ks ha hd hK ho z za zd
    have hlt := isS_le hc (by decide)
    cases hb with | seq g1 g2 =>
    cases g1
    obtain ⟨e1, e2, e3, e4, e5⟩ := nls_inv g2 rfl
    obtain rfl : ks = [] := hK.one ((Kn.refl s).same rfl e1)
    refine fin_loop hA hB hm hT hob ?_ (by omega) zd (fun i h1 h2 => ?_)
    · unfold isS at hc ⊢
      rw [emb_sg hA (i := s.a) (by omega) hlt]
      exact hc
    · rcases Nat.lt_or_ge i n1 with g | g
      · rw [emb_sg hA (i := i) (by omega) g]
        exact e4 i (by simp only [nxt]; omega) (by omega)
      · obtain rfl : i = n1 := by omega
        exact hA.sg
  | @go c d b t s s1 s2 s' hc hb hdd ht hr _ _ ih =>
    have ih' := ih hp
    clear ih
    unfold rlP at hp
    injection hp with h1 h2 h3 h4
    rw [h1] at hc
    rw [h3] at hdd
    subst h2 h4
    intro ks ha hd hK ho z za zd
    have hlt := isS_le hc (by decide)
    have hlt1 := pip_le hdd
    have q2 := ht.kp
    have q3 := hr.kp.a
    have q2a := q2.a
    cases hb with | seq g1 g2 =>
    cases g1
    obtain ⟨e1, e2, e3, e4, e5⟩ := nls_inv g2 rfl
    obtain ⟨k2, hk2⟩ := ht.kn
    obtain ⟨k3, hk3⟩ := hr.kn
    have hk1 : Kn s s1 [] := (Kn.refl s).same rfl e1
    obtain rfl := hK.one ((hk1.trans hk2).trans hk3)
    rw [List.nil_append] at ho ⊢
    have qa := g2.kp.a
    simp only [nxt] at qa e2 e4
    have hz1 : Ev m zv (.seq .adv (nlsP m zv)) z ⟨s1.a, z.L, z.u, z.d⟩ := by
      refine .seq .adv ?_
      refine nls_to (s := nxt z) (by simp only [nxt]; omega) (fun i h1 h2 => ?_) ?_
      · rw [emb_sg hA (i := i) (by omega) (by omega)]
        exact e4 i (by simp only [nxt] at h1; omega) h2
      · rw [emb_sg hA (i := s1.a) (by omega) hlt1]
        exact e5
    have hpz : pipT m zv ⟨s1.a, z.L, z.u, z.d⟩ = true := (emb_pip hA s1 _ (by simp only; omega) (by simp only; omega) (by omega)).trans hdd
    obtain ⟨z2, f1, f2, f3, f4⟩ := sim_and hA (z := ⟨s1.a, z.L, z.u, z.d⟩) ht (by omega) hk2 ho.l (by simp only; omega) (by simp only; omega)
    obtain ⟨z3, d1, d2, d3, d4⟩ := ih' k3 ha (by rw [q2.d, e2]; exact hd) hk3 ho.r z2 (by omega) (by rw [f3, q2.d, e2]; exact hd)
    refine ⟨z3, .go ?_ hz1 hpz f1 d1, d2, d3, ?_⟩
    · unfold isS at hc ⊢
      rw [emb_sg hA (i := s.a) (by omega) hlt]
      exact hc
    · rw [List.append_assoc]
      exact (f4.same rfl rfl).trans d4
theorem list_z {b : Nat} {kb : List Int} (hT : Tail n2 bv b kb) (hob : okK kb) {s s' z : PS} {ks : List Int} (h : Ev n1 av (listP n1 av) s s') (ha : s'.a = n1) (hd : s.d = 0) (hK : Kn s s' ks) (ho : okK ks) (za : z.a = s.a) (zd : z.d = 0) :
    ∃ z', Ev m zv (listP m zv) z z' ∧ z'.a = m ∧ Kn z z' (ks ++ kb) := by
  cases h with | @node _ _ _ _ s1 h => cases h with | @seq _ _ _ r1 _ h1 h2 =>
  obtain ⟨k1, hk1⟩ := h1.kn
  obtain ⟨k2, hk2⟩ := h2.kn
  obtain rfl := hK.one (kn_fin (hk1.trans hk2))
  have ha' : s1.a = n1 := ha
  have q2 := h2.kp.a
  have q1 := h1.kp.d
  obtain ⟨z1, f1, f2, f3, f4⟩ := sim_and hA (z := bgn 2 false z) h1 (by omega) hk1 ho.t.l (by simp only [bgn]; omega) (by simp only [bgn]; omega)
  obtain ⟨z2, d1, d2, d3, d4⟩ := loop_z hA hB hm hT hob h2 rfl k2 ha' (by rw [q1]; simp only [bgn, hd]; rfl) hk2 ho.t.r z1 (by omega) (by rw [f3, q1]; simp only [bgn, hd]; rfl)
  refine ⟨_, .node (.seq f1 d1), d2, ?_⟩
  have := kn_fin (f4.trans d4)
  rw [List.cons_append, List.append_assoc]
  exact this
/-- The tree of all is clean, and has as many pipes as both. -/
theorem tree_lines {LA LB LZ : List Nd} (tA : Tree n1 av LA) (tB : Tree n2 bv LB) (tZ : Tree m zv LZ) (oA : okK (LA.map Nd.k)) (oB : okK (LB.map Nd.k)) :
    okK (LZ.map Nd.k) ∧ (LZ.map Nd.k).count 4 = (LA.map Nd.k).count 4 + (LB.map Nd.k).count 4 := by
  suffices hx : ∃ s, Ev m zv (prgP m zv) (bgn 1 false ps0) s ∧ s.a = m ∧ ∀ ks, Kn (bgn 1 false ps0) s ks → okK ks ∧ (ks.count 4 = (LA.map Nd.k).count 4 + (LB.map Nd.k).count 4) by
    obtain ⟨s, h1, h2, h3⟩ := hx
    obtain ⟨ks, hk⟩ := h1.kn
    have hL : LZ = (fin 1 ps0 s).L := tZ.one ⟨_, .node h1, h2, rfl⟩
    have e := kn_fin (dp := false) hk
    unfold Kn at e
    rw [hL, e]
    obtain ⟨g1, g2⟩ := h3 ks hk
    refine ⟨fun k hk => ?_, ?_⟩
    · rcases List.mem_cons.1 (by simpa [ps0] using hk) with rfl | h
      · exact ⟨by decide, by decide⟩
      · exact g1 k h
    · simpa [ps0] using g2
  obtain ⟨sA, hA1, hA2, rfl⟩ := tA
  obtain ⟨sB, hB1, hB2, rfl⟩ := tB
  cases hA1 with | @node _ _ _ _ a1 hA1 =>
  cases hB1 with | @node _ _ _ _ b1 hB1 =>
  obtain ⟨ka, hka⟩ := hA1.kn
  obtain ⟨kb, hkb⟩ := hB1.kn
  have eA : (fin 1 ps0 a1).L.map Nd.k = 1 :: ka := by have := kn_fin (dp := false) hka; unfold Kn at this; simpa [ps0] using this
  have eB : (fin 1 ps0 b1).L.map Nd.k = 1 :: kb := by have := kn_fin (dp := false) hkb; unfold Kn at this; simpa [ps0] using this
  rw [eA] at oA ⊢
  rw [eB] at oB ⊢
  have cA : (1 :: ka).count (4 : Int) = ka.count 4 := by simp
  have cB : (1 :: kb).count (4 : Int) = kb.count 4 := by simp
  rw [cA, cB]
  obtain ⟨b, p1, p2, p3, p4⟩ := prg_inv hB1 rfl kb (Nat.le_of_eq hB2) hkb oB.t
  obtain ⟨a, q1, q2, q3, q4⟩ := prg_inv hA1 rfl ka (Nat.le_of_eq hA2) hka oA.t
  have ps0a : (bgn 1 false ps0).a = 0 := rfl
  have ps0d : (bgn 1 false ps0).d = 0 := rfl
  rw [ps0a] at p1 p3 q1 q3
  have hbl : ∃ kb', kb.count 4 = kb'.count 4 ∧ okK kb' ∧ Tail n2 bv b kb' := by
    rcases p4 with ⟨e, rfl⟩ | ⟨h1, h2, s1, h3, h4, h5⟩
    · exact ⟨[], rfl, oB.t, p2, fun i hi => p3 i (Nat.zero_le _) hi, .inl ⟨e, rfl⟩⟩
    · cases h3 with | node h3 =>
      obtain ⟨k1, hk1⟩ := h3.kn
      obtain rfl := h5.one (kn_fin hk1)
      exact ⟨k1, by simp, oB.t.t, p2, fun i hi => p3 i (Nat.zero_le _) hi, .inr ⟨h1, bgn 2 false ⟨b, (bgn 1 false ps0).L, (bgn 1 false ps0).u, (bgn 1 false ps0).d⟩, _, rfl, rfl, h2, h3, h4, hk1⟩⟩
  rcases q4 with ⟨e, rfl⟩ | ⟨h1, h2, s1, h3, h4, h5⟩
  · subst e
    obtain ⟨kb', _, _, hT⟩ := hbl
    have hnl : ∀ i, 0 ≤ i → i < 0 + (a + 1 + b) → sgA m zv i = 110 ∧ i < m := by
      intro i _ hi
      refine ⟨?_, by omega⟩
      rcases Nat.lt_or_ge i a with g | g
      · rw [emb_sg hA (i := i) (j := i) rfl g]; exact q3 i (Nat.zero_le _) g
      · exact z_nl hA hB hT g (by omega)
    have hgo := fun s' => prg_nls (n := m) (lv := zv) (a + 1 + b) (bgn 1 false ps0) s' hnl
    rw [ps0a, ps0d, Nat.zero_add] at hgo
    rcases p4 with ⟨e, rfl⟩ | ⟨g1, g2, s1, g3, g4, g5⟩
    · refine ⟨_, hgo _ (.stop (decide_eq_false (by simp only; omega))), by simp only; omega, fun ks hk => ?_⟩
      obtain rfl := hk.one ((Kn.refl (bgn 1 false ps0)).same rfl rfl)
      exact ⟨oB.t, rfl⟩
    · rcases sim g3 (sq_list hB) false _ ⟨a + 1 + b, (bgn 1 false ps0).L, (bgn 1 false ps0).u, 0⟩ kb (sq_list hB) (by omega) g5 oB.t (by simp only; omega) rfl with ⟨z', f1, f2, f3, f4⟩ | ⟨h, _⟩
      · refine ⟨z', hgo _ (prg_list ?_ (z_end hB hT) f1 (by omega)), by omega, fun ks hk => ?_⟩
        · exact (emb_pip hB ⟨b, (bgn 1 false ps0).L, (bgn 1 false ps0).u, (bgn 1 false ps0).d⟩ ⟨a + 1 + b, (bgn 1 false ps0).L, (bgn 1 false ps0).u, 0⟩ (by show a + 1 + b = b + (a + 1); omega) rfl p2).trans g2
        · obtain rfl := hk.one (f4.same rfl rfl)
          exact ⟨oB.t, by simp⟩
      · cases h
  · obtain ⟨kb', c1, c2, hT⟩ := hbl
    have hla := pip_le h2
    simp only at hla
    obtain ⟨z', f1, f2, f3⟩ := list_z hA hB hm hT c2 (z := ⟨a, (bgn 1 false ps0).L, (bgn 1 false ps0).u, (bgn 1 false ps0).d⟩) h3 h4 rfl h5 oA.t rfl rfl
    have hnl : ∀ i, 0 ≤ i → i < 0 + a → sgA m zv i = 110 ∧ i < m := by
      intro i _ hi
      refine ⟨?_, by omega⟩
      rw [emb_sg hA (i := i) (j := i) rfl (by omega)]
      exact q3 i (Nat.zero_le _) (by omega)
    have hgo := prg_nls (n := m) (lv := zv) a (bgn 1 false ps0) z' hnl
    rw [ps0a, ps0d, Nat.zero_add] at hgo
    refine ⟨z', hgo (prg_list ?_ ?_ f1 (by omega)), f2, fun ks hk => ?_⟩
    · exact (emb_pip hA ⟨a, (bgn 1 false ps0).L, (bgn 1 false ps0).u, (bgn 1 false ps0).d⟩ _ rfl rfl q2).trans h2
    · show sgA m zv a ≠ 110
      rw [emb_sg hA (i := a) (j := a) rfl hla]
      exact h1
    · obtain rfl := hk.one (f3.same rfl rfl)
      refine ⟨oA.t.app c2, ?_⟩
      rw [List.count_append, c1]
end
end Go.Proofs.YtkolpaonccmgiaaGreatDoor.Q

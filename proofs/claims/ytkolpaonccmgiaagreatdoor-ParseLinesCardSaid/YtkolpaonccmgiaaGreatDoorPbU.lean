/- Two rows of leaves with a newline between them: how their clean trees go into the tree of all, plainly. No condition: nothing here speaks of the program. -/
import Derived.Test.YtkolpaonccmgiaaGreatDoorSu
namespace Go.Proofs.YtkolpaonccmgiaaGreatDoor.Q
open Go.RowKit
set_option linter.unusedVariables false

/-- The kinds of the nodes that are new. -/
def Kn (s s' : PS) (ks : List Int) : Prop := s'.L.map Nd.k = s.L.map Nd.k ++ ks
theorem Kn.refl (s : PS) : Kn s s [] := by simp [Kn]
theorem Kn.trans {a b c : PS} {x y : List Int} (h : Kn a b x) (g : Kn b c y) : Kn a c (x ++ y) := by
  unfold Kn at h g ⊢
  rw [g, h, List.append_assoc]
theorem Kn.one {a b : PS} {x y : List Int} (h : Kn a b x) (g : Kn a b y) : x = y := List.append_cancel_left (h.symm.trans g)
theorem Kn.same {a b c d : PS} {x : List Int} (h : Kn a b x) (ha : c.L = a.L) (hb : d.L = b.L) : Kn c d x := by
  unfold Kn at h ⊢
  rw [ha, hb, h]
theorem kn_fin {k : Int} {dp : Bool} {s s1 : PS} {ks : List Int} (h : Kn (bgn k dp s) s1 ks) : Kn s (fin k s s1) (k :: ks) := by
  unfold Kn at h ⊢
  simp only [bgn, fin, List.map_append, List.map_cons, List.map_nil, List.map_set] at h ⊢
  rw [h, List.append_assoc, List.set_append]
  simp
def okK (ks : List Int) : Prop := ∀ k ∈ ks, k ≠ 17 ∧ k ≠ 18
theorem okK.l {a b : List Int} (h : okK (a ++ b)) : okK a := fun k hk => h k (List.mem_append_left _ hk)
theorem okK.r {a b : List Int} (h : okK (a ++ b)) : okK b := fun k hk => h k (List.mem_append_right _ hk)
theorem okK.t {k : Int} {b : List Int} (h : okK (k :: b)) : okK b := fun x hx => h x (List.mem_cons_of_mem _ hx)
theorem okK.app {a b : List Int} (h : okK a) (g : okK b) : okK (a ++ b) := fun k hk => (List.mem_append.1 hk).elim (h k) (g k)
section
variable {n : Nat} {lv : Nat → Lf}
theorem Ev.kn {p : PP} {s s' : PS} (h : Ev n lv p s s') : ∃ ks, Kn s s' ks := by
  induction h with
  | skip => exact ⟨_, Kn.refl _⟩
  | adv => exact ⟨[], Kn.refl _⟩
  | lst _ ih => exact ih
  | node _ ih => obtain ⟨ks, h⟩ := ih; exact ⟨_, kn_fin h⟩
  | seq _ _ h1 h2 => obtain ⟨_, h1⟩ := h1; obtain ⟨_, h2⟩ := h2; exact ⟨_, h1.trans h2⟩
  | yes _ _ ih => exact ih
  | no _ _ ih => exact ih
  | stop _ => exact ⟨_, Kn.refl _⟩
  | out _ _ _ ih => exact ih
  | go _ _ _ _ _ h1 h2 h3 => obtain ⟨_, h1⟩ := h1; obtain ⟨_, h2⟩ := h2; obtain ⟨_, h3⟩ := h3; exact ⟨_, (h1.trans h2).trans h3⟩
end
/-- A row of leaves within another one, from one number on; T: a newline comes behind it there. -/
structure Emb (T : Bool) (n : Nat) (lv : Nat → Lf) (m : Nat) (zv : Nat → Lf) (o : Nat) : Prop where
  el : ∀ i, i < n → lfA m zv (i + o) = lfA n lv i
  wd : (lfA m zv (n + o)).k ≠ 6
  sg : sgA m zv (n + o) = if T then 110 else 63
section
variable (n : Nat) (lv : Nat → Lf) (m : Nat) (zv : Nat → Lf) (o : Nat)
def Agr (c c' : PS → Bool) : Prop := ∀ s z : PS, z.a = s.a + o → z.d = s.d → s.a ≤ n → c' z = c s
def Agl (c c' : PS → Bool) : Prop := ∀ s z : PS, z.a = s.a + o → z.d = s.d → s.a < n → c' z = c s
def Outt (c : PS → Bool) : Prop := ∀ s : PS, s.a = n → c s = false
/-- At the end of the leaves a Missing is made. -/
def Mis (p : PP) : Prop := ∀ s s' ks, Ev n lv p s s' → s.a = n → s'.a ≤ n → Kn s s' ks → ¬ okK ks
/-- Two programs that do the same; t: but for a newline at the end. -/
inductive Sm (T : Bool) : Bool → PP → PP → Prop
  | skip {t : Bool} : Sm T t .skip .skip
  | adv {t : Bool} : Sm T t .adv .adv
  | lst {t : Bool} : (T = true → t = true) → Sm T t .lst .lst
  | node {t : Bool} {k : Int} {dp : Bool} {b b' : PP} : Sm T t b b' → Sm T t (.node k dp b) (.node k dp b')
  | seq {t : Bool} (t1 : Bool) {a a' b b' : PP} : Sm T t1 a a' → Sm T t b b' → (t1 = true → t = true ∨ Mis n lv b) → Sm T t (.seq a b) (.seq a' b')
  | ite {t : Bool} {c c' : PS → Bool} {a a' b b' : PP} : (Agr n o c c' ∨ Agl n o c c' ∧ (t = true ∨ Outt n c ∧ Mis n lv b)) → Sm T t a a' → Sm T t b b' → Sm T t (.ite c a b) (.ite c' a' b')
  | rep {t : Bool} {c c' d d' : PS → Bool} {a a' b b' : PP} : (Agr n o c c' ∨ Agl n o c c' ∧ t = true) → Agr n o d d' → Sm T t a a' → Sm T t b b' → Sm T t (.rep c a d b) (.rep c' a' d' b')
end
section
variable {T : Bool} {n : Nat} {lv : Nat → Lf} {m : Nat} {zv : Nat → Lf} {o : Nat}
theorem sim {p : PP} {s s' : PS} (hE : Ev n lv p s s') (hL : Sm n lv o T T (listP n lv) (listP m zv)) : ∀ (t : Bool) (q : PP) (z : PS) (ks : List Int), Sm n lv o T t p q → s'.a ≤ n → Kn s s' ks → okK ks → z.a = s.a + o → z.d = s.d →
    (∃ z', Ev m zv q z z' ∧ z'.a = s'.a + o ∧ z'.d = s'.d ∧ Kn z z' ks) ∨ (t = true ∧ s'.a = n) := by
  induction hE with
  | skip => intro t q z ks hS ha hK ho za zd; cases hS; exact .inl ⟨z, .skip, za, zd, by rw [hK.one (Kn.refl _)]; exact Kn.refl _⟩
  | @adv s =>
    intro t q z ks hS ha hK ho za zd
    cases hS
    exact .inl ⟨nxt z, .adv, by simp only [nxt]; omega, zd, by rw [Kn.one hK (show Kn s (nxt s) [] from Kn.refl _)]; exact Kn.refl _⟩
  | lst _ ih =>
    intro t q z ks hS ha hK ho za zd
    cases hS with | lst ht =>
    rcases ih T _ z ks hL ha hK ho za zd with ⟨z', h1, h2⟩ | ⟨h1, h2⟩
    · exact .inl ⟨z', .lst h1, h2⟩
    · exact .inr ⟨ht h1, h2⟩
  | @node k dp b s s' hE ih =>
    intro t q z ks hS ha hK ho za zd
    cases hS with | @node _ _ _ _ b' hS =>
    obtain ⟨k1, hk1⟩ := hE.kn
    obtain rfl := hK.one (kn_fin hk1)
    rcases ih t _ (bgn k dp z) k1 hS ha hk1 ho.t za (by simp only [bgn]; omega) with ⟨z', h1, h2, h3, h4⟩ | h
    · exact .inl ⟨_, .node h1, h2, zd, kn_fin h4⟩
    · exact .inr h
  | seq hE1 hE2 ih1 ih2 =>
    intro t q z ks hS ha hK ho za zd
    cases hS with | seq t1 hS1 hS2 ht =>
    obtain ⟨k1, hk1⟩ := hE1.kn
    obtain ⟨k2, hk2⟩ := hE2.kn
    obtain rfl := hK.one (hk1.trans hk2)
    have q2 := hE2.kp.a
    rcases ih1 t1 _ z k1 hS1 (by omega) hk1 ho.l za zd with ⟨z1, h1, h2, h3, h4⟩ | ⟨h1, h2⟩
    · rcases ih2 t _ z1 k2 hS2 ha hk2 ho.r h2 h3 with ⟨z2, g1, g2, g3, g4⟩ | h
      · exact .inl ⟨z2, .seq h1 g1, g2, g3, h4.trans g4⟩
      · exact .inr h
    · rcases ht h1 with h | h
      · exact .inr ⟨h, by omega⟩
      · exact absurd ho.r (h _ _ _ hE2 h2 ha hk2)
  | @yes c a b s s' hc hE ih =>
    intro t q z ks hS ha hK ho za zd
    have qa := hE.kp.a
    cases hS with | @ite _ _ c' _ a' _ b' hcc hSa hSb =>
    have hz : c' z = true ∨ (t = true ∧ s'.a = n) := by
      rcases hcc with h | ⟨h, g⟩
      · exact .inl ((h s z za zd (by omega)).trans hc)
      · rcases Nat.lt_or_ge s.a n with hlt | hge
        · exact .inl ((h s z za zd hlt).trans hc)
        · rcases g with g | g
          · exact .inr ⟨g, by omega⟩
          · rw [g.1 s (by omega)] at hc; cases hc
    rcases hz with hz | hz
    · rcases ih t _ z ks hSa ha hK ho za zd with ⟨z', h1, h2⟩ | h
      · exact .inl ⟨z', .yes hz h1, h2⟩
      · exact .inr h
    · exact .inr hz
  | @no c a b s s' hc hE ih =>
    intro t q z ks hS ha hK ho za zd
    have qa := hE.kp.a
    cases hS with | @ite _ _ c' _ a' _ b' hcc hSa hSb =>
    have hz : c' z = false ∨ (t = true ∧ s'.a = n) := by
      rcases hcc with h | ⟨h, g⟩
      · exact .inl ((h s z za zd (by omega)).trans hc)
      · rcases Nat.lt_or_ge s.a n with hlt | hge
        · exact .inl ((h s z za zd hlt).trans hc)
        · rcases g with g | g
          · exact .inr ⟨g, by omega⟩
          · exact absurd ho (g.2 _ _ _ hE (by omega) ha hK)
    rcases hz with hz | hz
    · rcases ih t _ z ks hSb ha hK ho za zd with ⟨z', h1, h2⟩ | h
      · exact .inl ⟨z', .no hz h1, h2⟩
      · exact .inr h
    · exact .inr hz
  | @stop c d b tt s hc =>
    intro t q z ks hS ha hK ho za zd
    cases hS with | @rep _ _ c' _ d' _ b' _ tt' hcc hdd hSb hSt =>
    obtain rfl := hK.one (Kn.refl _)
    rcases hcc with h | ⟨h, g⟩
    · exact .inl ⟨z, .stop ((h s z za zd ha).trans hc), za, zd, Kn.refl _⟩
    · rcases Nat.lt_or_ge s.a n with hlt | hge
      · exact .inl ⟨z, .stop ((h s z za zd hlt).trans hc), za, zd, Kn.refl _⟩
      · exact .inr ⟨g, by omega⟩
  | @out c d b tt s s' hc hE hd ih =>
    intro t q z ks hS ha hK ho za zd
    have qa := hE.kp.a
    cases hS with | @rep _ _ c' _ d' _ b' _ tt' hcc hdd hSb hSt =>
    have hz : c' z = true ∨ (t = true ∧ s'.a = n) := by
      rcases hcc with h | ⟨h, g⟩
      · exact .inl ((h s z za zd (by omega)).trans hc)
      · rcases Nat.lt_or_ge s.a n with hlt | hge
        · exact .inl ((h s z za zd hlt).trans hc)
        · exact .inr ⟨g, by omega⟩
    rcases hz with hz | hz
    · rcases ih t _ z ks hSb ha hK ho za zd with ⟨z', h1, h2, h3, h4⟩ | h
      · exact .inl ⟨z', .out hz h1 ((hdd s' z' h2 h3 ha).trans hd), h2, h3, h4⟩
      · exact .inr h
    · exact .inr hz
  | @go c d b tt s s1 s2 s' hc hE1 hd hE2 hE3 ih1 ih2 ih3 =>
    intro t q z ks hS ha hK ho za zd
    have q1 := hE1.kp.a
    have q2 := hE2.kp.a
    have q3 := hE3.kp.a
    obtain ⟨k1, hk1⟩ := hE1.kn
    obtain ⟨k2, hk2⟩ := hE2.kn
    obtain ⟨k3, hk3⟩ := hE3.kn
    obtain rfl := hK.one ((hk1.trans hk2).trans hk3)
    have hS0 := hS
    cases hS with | @rep _ _ c' _ d' _ b' _ tt' hcc hdd hSb hSt =>
    have hz : c' z = true ∨ (t = true ∧ s'.a = n) := by
      rcases hcc with h | ⟨h, g⟩
      · exact .inl ((h s z za zd (by omega)).trans hc)
      · rcases Nat.lt_or_ge s.a n with hlt | hge
        · exact .inl ((h s z za zd hlt).trans hc)
        · exact .inr ⟨g, by omega⟩
    rcases hz with hz | hz
    · rcases ih1 t _ z k1 hSb (by omega) hk1 ho.l.l za zd with ⟨z1, h1, h2, h3, h4⟩ | ⟨h, h'⟩
      · rcases ih2 t _ z1 k2 hSt (by omega) hk2 ho.l.r h2 h3 with ⟨z2, g1, g2, g3, g4⟩ | ⟨h, h'⟩
        · rcases ih3 t _ z2 k3 hS0 ha hk3 ho.r g2 g3 with ⟨z3, f1, f2, f3, f4⟩ | h
          · exact .inl ⟨z3, .go hz h1 ((hdd s1 z1 h2 h3 (by omega)).trans hd) g1 f1, f2, f3, (h4.trans g4).trans f4⟩
          · exact .inr h
        · exact .inr ⟨h, by omega⟩
      · exact .inr ⟨h, by omega⟩
    · exact .inr hz
/-! The tests agree. -/
variable (hM : Emb T n lv m zv o)
include hM
theorem emb_sg {i j : Nat} (hj : j = i + o) (hi : i < n) : sgA m zv j = sgA n lv i := by
  subst hj
  unfold sgA
  rw [hM.el i hi]
theorem emb_sgn {j : Nat} (hj : j = n + o) : sgA m zv j = 110 ∨ sgA m zv j = 63 := by
  subst hj
  rw [hM.sg]
  cases T
  · exact .inr rfl
  · exact .inl rfl
omit hM in
theorem sg_end : sgA n lv n = 63 := by
  unfold sgA lfA
  rw [if_neg (by omega)]
  rfl
omit hM in
theorem wd_end : (lfA n lv n).k = 0 := by
  unfold lfA
  rw [if_neg (by omega)]
  rfl
theorem emb_eq {i j c : Nat} (hj : j = i + o) (hi : i ≤ n) (h1 : c ≠ 110) (h2 : c ≠ 63) : (sgA m zv j == c) = (sgA n lv i == c) := by
  rcases Nat.lt_or_ge i n with h | h
  · rw [emb_sg hM hj h]
  · obtain rfl : i = n := by omega
    rw [sg_end]
    have e2 : (63 == c) = false := by simpa using (fun e => h2 e.symm)
    have e3 : (110 == c) = false := by simpa using (fun e => h1 e.symm)
    rcases emb_sgn hM hj with e | e <;> rw [e] <;> simp only [e2, e3]
theorem emb_isS (l : List Nat) (h1 : 110 ∉ l) (h2 : 63 ∉ l) : Agr n o (isS n lv l) (isS m zv l) := by
  intro s z za zd hs
  unfold isS
  rcases Nat.lt_or_ge s.a n with h | h
  · rw [emb_sg hM za h]
  · obtain e : s.a = n := by omega
    rw [e, sg_end]
    have e2 : l.contains 63 = false := by simpa using h2
    have e3 : l.contains 110 = false := by simpa using h1
    rw [e] at za
    rcases emb_sgn hM za with e | e <;> rw [e] <;> simp only [e2, e3]
theorem emb_nl (l : List Nat) : Agr n o (isS n lv l) (isS m zv l) ∨ Agl n o (isS n lv l) (isS m zv l) ∧ T = true := by
  cases hT : T with
  | true =>
    refine .inr ⟨fun s z za zd hs => ?_, rfl⟩
    unfold isS
    rw [emb_sg hM za hs]
  | false =>
    refine .inl (fun s z za zd hs => ?_)
    unfold isS
    rcases Nat.lt_or_ge s.a n with h | h
    · rw [emb_sg hM za h]
    · obtain e : s.a = n := by omega
      rw [e] at za
      rw [e, sg_end, za, hM.sg, hT]
      rfl
theorem emb_nlT (l : List Nat) : Agr n o (isS n lv l) (isS m zv l) ∨ Agl n o (isS n lv l) (isS m zv l) ∧ (T = true ∨ Outt n (isS n lv l) ∧ Mis n lv missP) :=
  (emb_nl hM l).imp id (fun h => ⟨h.1, .inl h.2⟩)
theorem emb_wrd : Agr n o (wrdT n lv) (wrdT m zv) := by
  intro s z za zd hs
  unfold wrdT
  rcases Nat.lt_or_ge s.a n with h | h
  · rw [za, hM.el _ h]
  · obtain e : s.a = n := by omega
    rw [e] at za
    rw [e, za, wd_end, decide_eq_false hM.wd]
    rfl
theorem emb_rdr : Agr n o (rdrT n lv) (rdrT m zv) := by
  intro s z za zd hs
  unfold rdrT
  rw [emb_eq hM za hs (c := 60) (by decide) (by decide), emb_eq hM za hs (c := 35) (by decide) (by decide)]
  rcases Nat.lt_or_ge s.a n with h | h
  · rw [emb_eq hM (i := s.a + 1) (by omega) (by omega) (c := 60) (by decide) (by decide)]
  · obtain e : s.a = n := by omega
    rw [e, sg_end]
    rfl
theorem emb_cmp : Agr n o (cmpT n lv) (cmpT m zv) := by
  intro s z za zd hs
  have h := emb_isS hM [123, 40, 105, 119, 114, 99] (by decide) (by decide) s z za zd hs
  unfold isS at h
  unfold cmpT
  rw [h, zd]
theorem emb_fn : Agr n o (fnT n lv) (fnT m zv) := by
  intro s z za zd hs
  unfold fnT
  rw [emb_eq hM za hs (c := 120) (by decide) (by decide), zd]
  rcases Nat.lt_or_ge s.a n with h | h
  · rw [emb_eq hM (i := s.a + 1) (by omega) (by omega) (c := 40) (by decide) (by decide), za, hM.el _ h]
  · obtain e : s.a = n := by omega
    rw [e, sg_end]
    rfl
theorem emb_cmd : Agr n o (cmdT n lv) (cmdT m zv) := by
  intro s z za zd hs
  unfold cmdT
  rw [emb_eq hM za hs (c := 120) (by decide) (by decide), emb_rdr hM s z za zd hs, emb_cmp hM s z za zd hs]
theorem emb_pip : Agr n o (pipT n lv) (pipT m zv) := by
  intro s z za zd hs
  unfold pipT
  rw [emb_eq hM za hs (c := 33) (by decide) (by decide), emb_cmd hM s z za zd hs]
theorem emb_asg : Agr n o (asgT n lv) (asgT m zv) := by
  intro s z za zd hs
  unfold asgT
  rw [emb_wrd hM s z za zd hs]
  rcases Nat.lt_or_ge s.a n with h | h
  · rw [za, hM.el _ h]
  · have e : wrdT n lv s = false := by unfold wrdT; rw [show s.a = n by omega, wd_end]; rfl
    rw [e]
    rfl
theorem emb_nam : Agr n o (namT n lv) (namT m zv) := by
  intro s z za zd hs
  unfold namT
  rw [emb_wrd hM s z za zd hs]
  rcases Nat.lt_or_ge s.a n with h | h
  · rw [za, hM.el _ h]
  · have e : wrdT n lv s = false := by unfold wrdT; rw [show s.a = n by omega, wd_end]; rfl
    rw [e]
    rfl
theorem emb_itm : Agr n o (itmT n lv) (itmT m zv) := by
  intro s z za zd hs
  unfold itmT
  rw [emb_eq hM za hs (c := 40) (by decide) (by decide), emb_eq hM za hs (c := 122) (by decide) (by decide), emb_wrd hM s z za zd hs]
theorem emb_sm1 : Agr n o (sm1T n lv) (sm1T m zv) := by
  intro s z za zd hs
  unfold sm1T
  rw [emb_rdr hM s z za zd hs, emb_asg hM s z za zd hs]
theorem emb_sm2 : Agr n o (sm2T n lv) (sm2T m zv) := by
  intro s z za zd hs
  unfold sm2T
  rw [emb_rdr hM s z za zd hs, emb_wrd hM s z za zd hs]
omit hM
theorem emb_yes : Agr n o yesT yesT := fun _ _ _ _ _ => rfl
/-! A Missing at the end. -/
theorem mis_miss : Mis n lv missP := by
  intro s s' ks h _ _ hK ho
  cases h with | node h =>
  obtain ⟨k, hk⟩ := h.kn
  obtain rfl := hK.one (kn_fin hk)
  exact (ho 18 (List.mem_cons_self ..)).2 rfl
theorem mis_l {a b : PP} (h : Mis n lv a) : Mis n lv (.seq a b) := by
  intro s s' ks hE hs hs' hK ho
  cases hE with | seq h1 h2 =>
  obtain ⟨k1, hk1⟩ := h1.kn
  obtain ⟨k2, hk2⟩ := h2.kn
  obtain rfl := hK.one (hk1.trans hk2)
  exact h _ _ _ h1 hs (Nat.le_trans h2.kp.a hs') hk1 ho.l
theorem mis_r {a b : PP} (h : Mis n lv b) : Mis n lv (.seq a b) := by
  intro s s' ks hE hs hs' hK ho
  cases hE with | seq h1 h2 =>
  obtain ⟨k1, hk1⟩ := h1.kn
  obtain ⟨k2, hk2⟩ := h2.kn
  obtain rfl := hK.one (hk1.trans hk2)
  have q1 := h1.kp.a
  have q2 := h2.kp.a
  exact h _ _ _ h2 (by omega) hs' hk2 ho.r
theorem mis_ite {c : PS → Bool} {a b : PP} (hc : Outt n c) (h : Mis n lv b) : Mis n lv (.ite c a b) := by
  intro s s' ks hE hs hs' hK ho
  cases hE with
  | yes g _ => rw [hc s hs] at g; cases g
  | no _ g => exact h _ _ _ g hs hs' hK ho
theorem out_isS {l : List Nat} (h : 63 ∉ l) : Outt n (isS n lv l) := by
  intro s hs
  unfold isS
  rw [hs, sg_end]
  simpa using h
theorem out_rdr : Outt n (rdrT n lv) := by
  intro s hs
  unfold rdrT
  rw [hs, sg_end]
  rfl
theorem out_cmp : Outt n (cmpT n lv) := by
  intro s hs
  unfold cmpT
  rw [hs, sg_end]
  rfl
theorem out_fn : Outt n (fnT n lv) := by
  intro s hs
  unfold fnT
  rw [hs, sg_end]
  rfl
theorem out_cmd : Outt n (cmdT n lv) := by
  intro s hs
  unfold cmdT
  rw [out_rdr s hs, out_cmp s hs, hs, sg_end]
  rfl
theorem out_pip : Outt n (pipT n lv) := by
  intro s hs
  unfold pipT
  rw [out_cmd s hs, hs, sg_end]
  rfl
theorem mis_want {b : Nat} (h : b ≠ 63) : Mis n lv (wantP n lv b) := mis_ite (out_isS (by simpa using fun e => h e.symm)) mis_miss
theorem mis_done : Mis n lv (doneP n lv) := mis_l (mis_want (by decide))
theorem mis_com : Mis n lv (comP n lv) := mis_ite out_cmp (mis_ite out_fn (mis_ite out_cmd mis_miss))
/-! The chapter's own text. -/
include hM
variable {t : Bool}
omit hM in
theorem sq_miss : Sm n lv o T t missP missP := .node .skip
omit hM in
theorem sq_word : Sm n lv o T t wordP wordP := .node .adv
omit hM in
theorem nof {a b : Prop} : false = true → a ∨ b := fun h => by cases h
theorem sq_opt (l : List Nat) (h1 : 110 ∉ l) (h2 : 63 ∉ l) : Sm n lv o T t (optP n lv l) (optP m zv l) := .ite (.inl (emb_isS hM l h1 h2)) .adv .skip
theorem sq_nls : Sm n lv o T T (nlsP n lv) (nlsP m zv) := .rep (emb_nl hM [110]) emb_yes .adv .skip
theorem sq_want (b : Nat) (h1 : b ≠ 110) (h2 : b ≠ 63) : Sm n lv o T t (wantP n lv b) (wantP m zv b) := .ite (.inl (emb_isS hM [b] (by simpa using fun e => h1 e.symm) (by simpa using fun e => h2 e.symm))) .adv sq_miss
theorem sq_won : Sm n lv o T t (wonP n lv) (wonP m zv) := .ite (.inl (emb_wrd hM)) sq_word sq_miss
theorem sq_body (h : T = true → t = true) : Sm n lv o T t (bodyP n lv) (bodyP m zv) := .seq T (sq_nls hM) (.ite (.inl (emb_pip hM)) (.lst h) sq_miss) (fun _ => .inr (mis_ite out_pip mis_miss))
theorem sq_red : Sm n lv o T t (redP n lv) (redP m zv) := .node (.seq false (.ite (.inl (emb_isS hM [35] (by decide) (by decide))) (.seq false .adv .adv nof) .adv) (sq_won hM) nof)
theorem sq_reds : Sm n lv o T t (redsP n lv) (redsP m zv) := .rep (.inl (emb_rdr hM)) emb_yes (sq_red hM) .skip
theorem sq_cp {k : Int} {w w' : PP} (h : Sm n lv o T false w w') : Sm n lv o T t (cpP n lv k w) (cpP m zv k w') := .node (.seq false .adv (.seq false h (sq_reds hM) nof) nof)
theorem sq_done : Sm n lv o T t (doneP n lv) (doneP m zv) := .seq false (sq_want hM 100 (by decide) (by decide)) (.seq T (sq_body hM id) (sq_want hM 103 (by decide) (by decide)) (fun _ => .inr (mis_want (by decide)))) nof
theorem sq_enc (b : Nat) (h1 : b ≠ 110) (h2 : b ≠ 63) : Sm n lv o T t (encP n lv b) (encP m zv b) := .seq T (sq_body hM id) (sq_want hM b h1 h2) (fun _ => .inr (mis_want h2))
theorem sq_brn : Sm n lv o T T (brnP n lv) (brnP m zv) := .seq T (sq_body hM id) (.seq false (sq_want hM 116 (by decide) (by decide)) (sq_body hM id) nof) (fun _ => .inr (mis_l (mis_want (by decide))))
theorem sq_br : Sm n lv o T t (brP n lv) (brP m zv) :=
  .seq T (sq_brn hM) (.seq T (.rep (.inl (emb_isS hM [101] (by decide) (by decide))) emb_yes (.seq false .adv (sq_brn hM) nof) .skip) (.seq T (.ite (.inl (emb_isS hM [108] (by decide) (by decide))) (.seq false .adv (sq_body hM id) nof) .skip) (sq_want hM 102 (by decide) (by decide)) (fun _ => .inr (mis_want (by decide)))) (fun _ => .inr (mis_r (mis_want (by decide))))) (fun _ => .inr (mis_r (mis_r (mis_want (by decide)))))
theorem sq_loop : Sm n lv o T t (loopP n lv) (loopP m zv) := .seq T (sq_body hM id) (sq_done hM) (fun _ => .inr mis_done)
theorem sq_val : Sm n lv o T T (valP n lv) (valP m zv) :=
  .ite (.inl (emb_isS hM [107] (by decide) (by decide))) (.seq false .adv (.seq false (.rep (.inl (emb_wrd hM)) emb_yes sq_word .skip) (.ite (emb_nlT hM [59, 110]) (.seq false .adv (sq_nls hM) nof) sq_miss) nof) nof) .skip
theorem sq_each : Sm n lv o T t (eachP n lv) (eachP m zv) :=
  .seq false (.ite (.inl (emb_nam hM)) sq_word sq_miss) (.seq T (.ite (.inl (emb_isS hM [59] (by decide) (by decide))) (.seq false .adv (sq_nls hM) nof) (.seq T (sq_nls hM) (sq_val hM) (fun h => .inl h))) (sq_done hM) (fun _ => .inr mis_done)) nof
theorem sq_item : Sm n lv o T T (itemP n lv) (itemP m zv) :=
  .seq false (sq_opt hM [40] (by decide) (by decide)) (.seq false (sq_won hM) (.seq false (.rep (.inl (emb_isS hM [124] (by decide) (by decide))) emb_yes (.seq false .adv (sq_won hM) nof) .skip) (.seq false (sq_want hM 41 (by decide) (by decide)) (.seq T (sq_nls hM) (.ite (.inl (emb_pip hM)) (.lst id) .skip) (fun h => .inl h)) nof) nof) nof) nof
theorem sq_itms : Sm n lv o T T (itmsP n lv) (itmsP m zv) := .rep (.inl (emb_itm hM)) (emb_isS hM [121] (by decide) (by decide)) (.node (sq_item hM)) (.seq false .adv (sq_nls hM) nof)
theorem sq_cas : Sm n lv o T t (casP n lv) (casP m zv) :=
  .seq false (sq_won hM) (.seq T (sq_nls hM) (.seq false (sq_want hM 107 (by decide) (by decide)) (.seq T (sq_nls hM) (.seq T (sq_itms hM) (sq_want hM 122 (by decide) (by decide)) (fun _ => .inr (mis_want (by decide)))) (fun _ => .inr (mis_r (mis_want (by decide))))) nof) (fun _ => .inr (mis_l (mis_want (by decide))))) nof
theorem sq_cmp : Sm n lv o T t (cmpP n lv) (cmpP m zv) :=
  .ite (.inl (emb_isS hM [123] (by decide) (by decide))) (sq_cp hM (sq_enc hM 125 (by decide) (by decide))) (.ite (.inl (emb_isS hM [40] (by decide) (by decide))) (sq_cp hM (sq_enc hM 41 (by decide) (by decide))) (.ite (.inl (emb_isS hM [105] (by decide) (by decide))) (sq_cp hM (sq_br hM)) (.ite (.inl (emb_isS hM [119] (by decide) (by decide))) (sq_cp hM (sq_loop hM)) (.ite (.inl (emb_isS hM [114] (by decide) (by decide))) (sq_cp hM (sq_each hM)) (sq_cp hM (sq_cas hM))))))
theorem sq_fnb : Sm n lv o T t (fnbP n lv) (fnbP m zv) :=
  .seq false sq_word (.seq false .adv (.seq false (sq_want hM 41 (by decide) (by decide)) (.seq T (sq_nls hM) (.ite (.inl (emb_cmp hM)) (sq_cmp hM) sq_miss) (fun _ => .inr (mis_ite out_cmp mis_miss))) nof) nof) nof
theorem sq_sim : Sm n lv o T t (simbP n lv) (simbP m zv) :=
  .seq false (.rep (.inl (emb_sm1 hM)) emb_yes (.ite (.inl (emb_rdr hM)) (sq_red hM) (.node .adv)) .skip) (.rep (.inl (emb_sm2 hM)) emb_yes (.ite (.inl (emb_rdr hM)) (sq_red hM) sq_word) .skip) nof
theorem sq_com : Sm n lv o T t (comP n lv) (comP m zv) :=
  .ite (.inl (emb_cmp hM)) (sq_cmp hM) (.ite (.inl (emb_fn hM)) (.node (sq_fnb hM)) (.ite (.inl (emb_cmd hM)) (.node (sq_sim hM)) sq_miss))
theorem sq_pip : Sm n lv o T t (pipP n lv) (pipP m zv) :=
  .node (.seq false (sq_opt hM [33] (by decide) (by decide)) (.seq false (sq_com hM) (.rep (.inl (emb_isS hM [124] (by decide) (by decide))) emb_yes (.seq false .adv (.seq T (sq_nls hM) (sq_com hM) (fun _ => .inr mis_com)) nof) .skip) nof) nof)
theorem sq_and : Sm n lv o T t (andP n lv) (andP m zv) :=
  .node (.seq false (sq_pip hM) (.rep (.inl (emb_isS hM [97, 111] (by decide) (by decide))) emb_yes (.seq false .adv (.seq T (sq_nls hM) (.ite (.inl (emb_pip hM)) (sq_pip hM) sq_miss) (fun _ => .inr (mis_ite out_pip mis_miss))) nof) .skip) nof)
theorem sq_lsb : Sm n lv o T T (lsbP n lv) (lsbP m zv) :=
  .seq false (sq_and hM) (.rep (emb_nl hM [59, 38, 110]) (emb_pip hM) (.seq false .adv (sq_nls hM) nof) (sq_and hM)) nof
theorem sq_list : Sm n lv o T T (listP n lv) (listP m zv) := .node (sq_lsb hM)
theorem sim_and {s s' z : PS} {ks : List Int} (hE : Ev n lv (andP n lv) s s') (ha : s'.a ≤ n) (hK : Kn s s' ks) (ho : okK ks) (za : z.a = s.a + o) (zd : z.d = s.d) :
    ∃ z', Ev m zv (andP m zv) z z' ∧ z'.a = s'.a + o ∧ z'.d = s'.d ∧ Kn z z' ks := by
  rcases sim hE (sq_list hM) false _ z ks (sq_and hM) ha hK ho za zd with h | ⟨h, _⟩
  · exact h
  · cases h
end
section
variable {n : Nat} {lv : Nat → Lf} {m : Nat} {zv : Nat → Lf} {o : Nat}
theorem sim_lsb (hM : Emb false n lv m zv o) {s s' z : PS} {ks : List Int} (hE : Ev n lv (lsbP n lv) s s') (ha : s'.a ≤ n) (hK : Kn s s' ks) (ho : okK ks) (za : z.a = s.a + o) (zd : z.d = s.d) :
    ∃ z', Ev m zv (lsbP m zv) z z' ∧ z'.a = s'.a + o ∧ z'.d = s'.d ∧ Kn z z' ks := by
  rcases sim hE (sq_list hM) false _ z ks (sq_lsb hM) ha hK ho za zd with h | ⟨h, _⟩
  · exact h
  · cases h
end
end Go.Proofs.YtkolpaonccmgiaaGreatDoor.Q

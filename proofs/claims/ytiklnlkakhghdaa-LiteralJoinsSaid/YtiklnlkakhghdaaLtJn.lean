/- The machine and its places: a run that begins elsewhere (plain).
What layer 8's statement LiteralJoins does: where nothing is open behind a text, its value goes ahead of the other one's. No condition but that a text's length fits an int. -/
import Derived.Test.YtiklnlkakhghdaaLtK
import Derived.Test.YtiklnlkakhghdaaLtJ
import Derived.Test.YtiklnlkakhghdaaMdFr
namespace Go.Proofs.Ytiklnlkakhghdaa
set_option linter.unusedVariables false

/-- Frames whose places are turned. -/
def mapP (g : Nat → Nat) (st : List Fr) : List Fr := st.map fun x => (x.1, g x.2)
theorem mapP_cons (g : Nat → Nat) (m f : Nat) (r : List Fr) : mapP g ((m, f) :: r) = (m, g f) :: mapP g r := rfl
theorem mapP_top (g : Nat → Nat) (st : List Fr) : top (mapP g st) = top st := by cases st <;> rfl
theorem run_map (g : Nat → Nat) (v : Mv) (st : List Fr) (p : Nat) : v.run (mapP g st) (g p) = mapP g (v.run st p) := by
  cases v <;> cases st <;> rfl
theorem plainF_map (g : Nat → Nat) (st : List Fr) (fr : Bool) (b p : Nat) : plainF (mapP g st) fr b (g p) = ⟨mapP g (plainF st fr b p).st, (plainF st fr b p).fresh⟩ := by
  cases st with
  | nil => rfl
  | cons a r =>
    obtain ⟨m, f⟩ := a
    show fin (mv m b fr) (mapP g ((m, f) :: r)) (g p) = _
    unfold fin
    rw [run_map]
    rfl
/-- The machine turns no place: it puts them where they are given. -/
theorem feed_map (g : Nat → Nat) (st : List Fr) (fr : Bool) (b p : Nat) : feed ⟨mapP g st, fr⟩ b (g p) = ⟨mapP g (feed ⟨st, fr⟩ b p).st, (feed ⟨st, fr⟩ b p).fresh⟩ := by
  cases st with
  | nil => rfl
  | cons a r =>
    obtain ⟨m, f⟩ := a
    rw [mapP_cons]
    unfold feed
    simp only
    rw [← mapP_cons g m f r, ← mapP_cons g 1 f r, ← mapP_cons g 9 f r, mapP_top, plainF_map, plainF_map, plainF_map, plainF_map]
    repeat' split
    all_goals rfl
/-- But for a # the stack hangs on no freshness. -/
theorem mv_fr {b : Nat} (hb : b ≠ 35) (m : Nat) (f1 f2 : Bool) : (mv m b f1).1 = (mv m b f2).1 := by
  unfold mv
  simp only [hb, false_and, if_false, apply_ite Prod.fst]
theorem plainF_fr {b : Nat} (hb : b ≠ 35) (st : List Fr) (f1 f2 : Bool) (p : Nat) : (plainF st f1 b p).st = (plainF st f2 b p).st := by
  cases st with
  | nil => rfl
  | cons a r =>
    obtain ⟨m, f⟩ := a
    show (mv m b f1).1.run _ _ = (mv m b f2).1.run _ _
    rw [mv_fr hb m f1 f2]
theorem feed_fr {b : Nat} (hb : b ≠ 35) (st : List Fr) (f1 f2 : Bool) (p : Nat) : (feed ⟨st, f1⟩ b p).st = (feed ⟨st, f2⟩ b p).st := by
  cases st with
  | nil => rfl
  | cons a r =>
    obtain ⟨m, f⟩ := a
    unfold feed
    simp only
    repeat' split
    all_goals first | rfl | exact plainF_fr hb _ f1 f2 p
theorem runG_map (g : Nat → Nat) (β : Nat → Nat) (p q : Nat) (st : List Fr) (fr : Bool) : ∀ k, (∀ i, i < k → g (p + i) = q + i) → runG ⟨mapP g st, fr⟩ β q k = ⟨mapP g (runG ⟨st, fr⟩ β p k).st, (runG ⟨st, fr⟩ β p k).fresh⟩
  | 0, _ => rfl
  | k + 1, h => by
    have ih := runG_map g β p q st fr k (fun i hi => h i (by omega))
    show feed (runG ⟨mapP g st, fr⟩ β q k) (β k) (q + k) = ⟨mapP g (feed (runG ⟨st, fr⟩ β p k) (β k) (p + k)).st, (feed (runG ⟨st, fr⟩ β p k) (β k) (p + k)).fresh⟩
    rw [ih, ← h k (by omega)]
    exact feed_map g _ _ _ _
theorem runG_fr (β : Nat → Nat) (p : Nat) (st : List Fr) (f1 f2 : Bool) : ∀ k, (∀ i, i < k → β i ≠ 35) → (runG ⟨st, f1⟩ β p k).st = (runG ⟨st, f2⟩ β p k).st
  | 0, _ => rfl
  | k + 1, h => by
    have ih := runG_fr β p st f1 f2 k (fun i hi => h i (by omega))
    show (feed (runG ⟨st, f1⟩ β p k) (β k) (p + k)).st = (feed (runG ⟨st, f2⟩ β p k) (β k) (p + k)).st
    obtain ⟨s1, e1⟩ : ∃ x, runG ⟨st, f1⟩ β p k = x := ⟨_, rfl⟩
    obtain ⟨s2, e2⟩ : ∃ x, runG ⟨st, f2⟩ β p k = x := ⟨_, rfl⟩
    rw [e1, e2] at ih ⊢
    obtain ⟨u1, g1⟩ := s1
    obtain ⟨u2, g2⟩ := s2
    have ih : u1 = u2 := ih
    subst ih
    exact feed_fr (h k (by omega)) _ _ _ _
theorem st_of_nt {s : ByteArray} {k : Nat} (h : nt s k = []) : ∃ fr, runK s k = ⟨[(0, 0)], fr⟩ := by
  have := nt_st s k
  rw [h] at this
  obtain ⟨x, e⟩ : ∃ x, runK s k = x := ⟨_, rfl⟩
  rw [e] at this ⊢
  obtain ⟨st, fr⟩ := x
  have this : st = [(0, 0)] := this
  subst this
  exact ⟨fr, rfl⟩
/-- Behind a text at whose end nothing is open, a text without a # runs as at a beginning. -/
theorem join_run {a b : ByteArray} (ha : nt a a.size = []) (hb : ∀ i, i < b.size → by8 b i ≠ 35) {k : Nat} (hk : k ≤ b.size) : (runK (a ++ b) (a.size + k)).st = (runG ⟨[(0, 0)], true⟩ (by8 b) a.size k).st := by
  have h0 : runK (a ++ b) a.size = runK a a.size := runG_congr (fun i hi => by rw [by8_append _ _ _ (by omega), if_pos hi])
  obtain ⟨fr, hfr⟩ := st_of_nt ha
  show (runG Ms.start (by8 (a ++ b)) 0 (a.size + k)).st = _
  rw [runG_add]
  have h1 : runG Ms.start (by8 (a ++ b)) 0 a.size = ⟨[(0, 0)], fr⟩ := h0.trans hfr
  rw [h1, Nat.zero_add, runG_congr (γ := by8 b) (fun i hi => by rw [by8_append _ _ _ (by omega), if_neg (by omega), Nat.add_sub_cancel_left])]
  exact runG_fr _ _ _ _ _ k (fun i hi => hb i (by omega))
theorem join_nt {a b : ByteArray} (ha : nt a a.size = []) (hb : ∀ i, i < b.size → by8 b i ≠ 35) {k : Nat} (hk : k ≤ b.size) : nt (a ++ b) (a.size + k) = (nt b k).map fun x => (x.1, x.2 + a.size) := by
  have c1 : nt ⟨#[97]⟩ (⟨#[97]⟩ : ByteArray).size = [] := by kernel_rfl
  have c2 := join_run c1 hb hk
  rw [nt_st] at c2
  have c3 : nt (⟨#[97]⟩ ++ b) 1 = [] := by
    have := join_run c1 hb (Nat.zero_le b.size)
    rw [nt_st] at this
    have this : nt (⟨#[97]⟩ ++ b) 1 ++ [(0, 0)] = [] ++ [(0, 0)] := this
    exact List.append_cancel_right this
  obtain ⟨D, hD⟩ : ∃ D, nt (⟨#[97]⟩ ++ b) ((⟨#[97]⟩ : ByteArray).size + k) = D := ⟨_, rfl⟩
  have hD1 : ∀ x ∈ D, 1 ≤ x.2 := fun x hx => by
    rcases Nat.eq_zero_or_pos x.2 with e | e
    · have hp : pres (⟨#[97]⟩ ++ b) ((⟨#[97]⟩ : ByteArray).size + k) 0 = true := pres_iff.2 ⟨x.1, by rw [hD, ← e]; exact hx⟩
      have := (pres_all hp).2 1 (by omega) (by show 1 ≤ 1 + k; omega)
      unfold pres at this
      rw [c3] at this
      cases this
    · exact e
  rw [hD] at c2
  have hs : (⟨#[97]⟩ : ByteArray).size = 1 := rfl
  rw [hs] at c2
  have e1 : nt b k = mapP (fun p => p - 1) D := by
    have h := runG_map (fun p => p - 1) (by8 b) 1 0 [(0, 0)] true k (fun i _ => by show 1 + i - 1 = 0 + i; omega)
    have h2 : runK b k = ⟨mapP (fun p => p - 1) (runG ⟨[(0, 0)], true⟩ (by8 b) 1 k).st, (runG ⟨[(0, 0)], true⟩ (by8 b) 1 k).fresh⟩ := h
    have h3 := nt_st b k
    rw [h2, ← c2] at h3
    have h3 : mapP (fun p => p - 1) (D ++ [(0, 0)]) = nt b k ++ [(0, 0)] := h3
    unfold mapP at h3 ⊢
    rw [List.map_append] at h3
    exact (List.append_cancel_right h3).symm
  have e2 : nt (a ++ b) (a.size + k) = mapP (fun p => if p = 0 then 0 else p - 1 + a.size) D := by
    have h := runG_map (fun p => if p = 0 then 0 else p - 1 + a.size) (by8 b) 1 a.size [(0, 0)] true k (fun i _ => by
      show (if 1 + i = 0 then 0 else 1 + i - 1 + a.size) = a.size + i
      rw [if_neg (by omega)]; omega)
    have h3 := nt_st (a ++ b) (a.size + k)
    rw [join_run ha hb hk] at h3
    have h4 : (runG ⟨[(0, 0)], true⟩ (by8 b) a.size k).st = mapP (fun p => if p = 0 then 0 else p - 1 + a.size) (runG ⟨[(0, 0)], true⟩ (by8 b) 1 k).st := by
      have := congrArg Ms.st h
      exact this
    rw [h4, ← c2] at h3
    unfold mapP at h3 ⊢
    rw [List.map_append] at h3
    exact (List.append_cancel_right h3).symm
  rw [e1, e2]
  unfold mapP
  rw [List.map_map]
  apply List.map_congr_left
  intro x hx
  have := hD1 x hx
  show (x.1, if x.2 = 0 then 0 else x.2 - 1 + a.size) = (x.1, x.2 - 1 + a.size)
  rw [if_neg (by omega)]
section
variable {a b : ByteArray} (ha : nt a a.size = []) (hb : ∀ i, i < b.size → by8 b i ≠ 35)
include ha hb
theorem jb_pres {k : Nat} (hk : k ≤ b.size) (f : Nat) : pres (a ++ b) (a.size + k) (a.size + f) = pres b k f := by
  unfold pres
  rw [join_nt ha hb hk, List.any_map]
  congr 1
  funext x
  show (x.2 + a.size == a.size + f) = (x.2 == f)
  rw [Bool.eq_iff_iff, beq_iff_eq, beq_iff_eq]
  omega
theorem jb_md {k : Nat} (hk : k ≤ b.size) (f : Nat) : md (a ++ b) (a.size + k) (a.size + f) = md b k f := by
  unfold md
  rw [join_nt ha hb hk, List.find?_map, Option.map_map]
  have e : ((fun x : Fr => x.2 == a.size + f) ∘ fun x : Fr => (x.1, x.2 + a.size)) = fun x : Fr => x.2 == f := by
    funext x
    show (x.2 + a.size == a.size + f) = (x.2 == f)
    rw [Bool.eq_iff_iff, beq_iff_eq, beq_iff_eq]
    omega
  rw [e]
  rfl
theorem jb_born {f : Nat} (hf : f < b.size) : born (a ++ b) (a.size + f) = born b f := jb_pres ha hb (k := f + 1) hf f
theorem jb_eK {f : Nat} (hf : f ≤ b.size) : eK (a ++ b) (a.size + f) (a ++ b).size = a.size + eK b f b.size := by
  have h1 := eK_le b hf
  have h0 : f ≤ eK b f b.size := by unfold eK; omega
  refine eK_eq (by omega) (by rw [ByteArray.size_append]; omega) (fun j g1 g2 => ?_) (fun g => ?_)
  · have := jb_pres ha hb (k := j - a.size) (by omega) f
    rw [show a.size + (j - a.size) = j by omega] at this
    rw [this]
    exact eK_pres (k := b.size) (by omega) (by omega)
  · rw [ByteArray.size_append] at g
    have := jb_pres ha hb (k := eK b f b.size + 1) (by omega) f
    rw [show a.size + eK b f b.size + 1 = a.size + (eK b f b.size + 1) by omega, this]
    exact eK_stop hf (by omega)
end
theorem ja_nt (a b : ByteArray) {k : Nat} (hk : k ≤ a.size) : nt (a ++ b) k = nt a k := by
  have h0 : runK (a ++ b) k = runK a k := runG_congr (fun i hi => by rw [by8_append _ _ _ (by omega), if_pos (by omega)])
  have h1 := nt_st (a ++ b) k
  have h2 := nt_st a k
  rw [h0, h2] at h1
  exact (List.append_cancel_right h1).symm
theorem ja_pres (a b : ByteArray) {k : Nat} (hk : k ≤ a.size) (f : Nat) : pres (a ++ b) k f = pres a k f := by
  unfold pres
  rw [ja_nt a b hk]
theorem ja_born (a b : ByteArray) {f : Nat} (hf : f < a.size) : born (a ++ b) f = born a f := ja_pres a b (k := f + 1) hf f
/-- A part of a text at whose end nothing is open ends as it did. -/
theorem ja_eK {a : ByteArray} (ha : nt a a.size = []) (b : ByteArray) {f : Nat} (hf : f < a.size) : eK (a ++ b) f (a ++ b).size = eK a f a.size ∧ eK a f a.size < a.size := by
  have hn : pres a a.size f = false := by unfold pres; rw [ha]; rfl
  have h1 := eK_not hf hn
  have h0 : f ≤ eK a f a.size := by unfold eK; omega
  refine ⟨eK_eq h0 (by rw [ByteArray.size_append]; omega) (fun j g1 g2 => ?_) (fun g => ?_), h1⟩
  · rw [ja_pres a b (by omega)]
    exact eK_pres g1 g2
  · rw [ja_pres a b (by omega)]
    exact eK_stop (Nat.le_of_lt hf) h1
theorem lead_cg {q r : Nat → Bool} : ∀ {z : Nat}, (∀ i, i < z → q i = r i) → lead q z = lead r z
  | 0, _ => rfl
  | z + 1, h => by
    unfold lead
    rw [lead_cg (fun i hi => h i (by omega)), h z (by omega)]
theorem jb_bt (a b : ByteArray) {i : Nat} (hi : i < b.size) : (bt (a ++ b) (a.size + i)).toNat = (bt b i).toNat := by
  have := by8_append a b (a.size + i) (by omega)
  rw [if_neg (by omega), Nat.add_sub_cancel_left] at this
  exact this
theorem jb_param (a b : ByteArray) {f : Nat} (hf : f ≤ b.size) : paramN (a ++ b) (a.size + f) = paramN b f := by
  have e1 : (a ++ b).size - (a.size + f) = b.size - f := by rw [ByteArray.size_append]; omega
  have e2 : nameN (a ++ b) (a.size + f) = nameN b f := by
    unfold nameN
    rw [e1]
    refine lead_cg (fun i hi => ?_)
    have : cl (a ++ b) (a.size + f + i) = cl b (f + i) := by
      unfold cl
      rw [Nat.add_assoc, jb_bt a b (by omega)]
    rw [this]
  unfold paramN
  rw [e2]
  by_cases h : f < b.size
  · have e3 : cl (a ++ b) (a.size + f) = cl b f := by unfold cl; rw [jb_bt a b h]
    have e4 : a.size + f < (a ++ b).size := by rw [ByteArray.size_append]; omega
    rw [e3, jb_bt a b h]
    simp only [e4, h]
  · have e4 : ¬ a.size + f < (a ++ b).size := by rw [ByteArray.size_append]; omega
    rw [if_neg (c := a.size + f < (a ++ b).size ∧ _) (fun g => e4 g.1), if_neg (c := f < b.size ∧ _) (fun g => h g.1)]
/-- A part behind the joint: as it was, but for its place and the one that it stands in. -/
theorem jb_prt {a b : ByteArray} (ha : nt a a.size = []) (hb : ∀ i, i < b.size → by8 b i ≠ 35) {f : Nat} (hf : f < b.size) (hbo : born b f = true) :
    ∃ u, prt (a ++ b) (a.size + f) = ⟨(prt b f).mode, a.size + (prt b f).frm, a.size + (prt b f).to, u, (prt b f).op⟩ := by
  have hz : (a ++ b).size = a.size + b.size := ByteArray.size_append
  have hE := jb_eK ha hb (Nat.le_of_lt hf)
  have hel := eK_le b (Nat.le_of_lt hf)
  have hm := jb_md ha hb hel f
  refine ⟨upI (a ++ b) (a.size + f), ?_⟩
  rw [prt_eq ((jb_born ha hb hf).trans hbo) (by omega), prt_eq hbo hf, hE, hm]
  by_cases h12 : cnt (md b (eK b f b.size) f) = 12
  · have hp : paramN (a ++ b) (a.size + f + 1) = paramN b (f + 1) := by rw [Nat.add_assoc]; exact jb_param a b (by omega)
    have ht : a.size + f + 1 + paramN b (f + 1) = a.size + (f + 1 + paramN b (f + 1)) := by omega
    rw [if_pos h12, if_pos h12, hp, ht]
  · rw [if_neg h12, if_neg h12]
    by_cases h : eK b f b.size = b.size
    · rw [if_pos (by omega), if_pos h, decide_eq_true (by omega), decide_eq_true h, hz]
    · rw [if_neg (by omega), if_neg h, decide_eq_false (by omega), decide_eq_false h, Nat.add_assoc]
theorem ja_bt (a b : ByteArray) {i : Nat} (hi : i < a.size) : (bt (a ++ b) i).toNat = (bt a i).toNat := by
  have := by8_append a b i (by omega)
  rw [if_pos hi] at this
  exact this
theorem ja_param (a b : ByteArray) {f : Nat} (hf : f < a.size) (h : paramN a f = 0) : paramN (a ++ b) f = 0 := by
  have hz : (a ++ b).size = a.size + b.size := ByteArray.size_append
  unfold paramN at h ⊢
  by_cases hn : 0 < nameN a f
  · rw [if_pos hn] at h; omega
  rw [if_neg hn] at h
  have e3 : cl (a ++ b) f = cl a f := by unfold cl; rw [ja_bt a b hf]
  have hq : mayN (cl a f) 0 = false := by
    cases hm : mayN (cl a f) 0 with
    | false => rfl
    | true =>
      exfalso
      apply hn
      unfold nameN
      rcases Nat.eq_zero_or_pos (lead (fun i => mayN (cl a (f + i)) i) (a.size - f)) with e | e
      · have := lead_stop (fun i => mayN (cl a (f + i)) i) (z := a.size - f) (by omega)
        rw [e] at this
        have this : mayN (cl a f) 0 = false := this
        rw [hm] at this
        cases this
      · exact e
  have e2 : nameN (a ++ b) f = 0 := by
    unfold nameN
    refine lead_eq _ (Nat.zero_le _) (fun i hi => by omega) (fun _ => ?_)
    show mayN (cl (a ++ b) f) 0 = false
    rw [e3]; exact hq
  rw [e2, if_neg (by omega)]
  by_cases hs : f < a.size ∧ (cl a f = 6 ∨ specB (bt a f).toNat = true)
  · rw [if_pos hs] at h; omega
  · rw [if_neg]
    intro g
    rw [e3, ja_bt a b hf] at g
    exact hs ⟨hf, g.2⟩
/-- A part ahead of the joint: as it was, or a dollar with a parameter. -/
theorem ja_prt {a : ByteArray} (ha : nt a a.size = []) (b : ByteArray) {f : Nat} (hf : f < a.size) (hbo : born a f = true) :
    ((prt a f).mode = 12 ∧ (prt a f).to ≠ f + 1) ∨ ∃ u, prt (a ++ b) f = ⟨(prt a f).mode, (prt a f).frm, (prt a f).to, u, (prt a f).op⟩ := by
  have hz : (a ++ b).size = a.size + b.size := ByteArray.size_append
  obtain ⟨hE, hlt⟩ := ja_eK ha b hf
  have he := eK_born hbo hf
  have hm : md (a ++ b) (eK a f a.size) f = md a (eK a f a.size) f := by unfold md; rw [ja_nt a b (by omega)]
  have h1 := prt_eq ((ja_born a b hf).trans hbo) (by omega)
  have h2 := prt_eq hbo hf
  rw [hE, hm] at h1
  by_cases h12 : cnt (md a (eK a f a.size) f) = 12
  · rw [if_pos h12] at h1 h2
    by_cases hp : paramN a (f + 1) = 0
    · right
      rw [ja_param a b (by omega) hp] at h1
      rw [hp] at h2
      exact ⟨_, by rw [h1, h2]⟩
    · left
      rw [h2]
      exact ⟨rfl, by show f + 1 + _ ≠ _; omega⟩
  · right
    rw [if_neg h12, if_neg (by omega), decide_eq_false (by omega)] at h1
    rw [if_neg h12, if_neg (by omega), decide_eq_false (by omega)] at h2
    exact ⟨_, by rw [h1, h2]⟩
theorem jb_by8 (a b : ByteArray) (i : Nat) : by8 (a ++ b) (a.size + i) = by8 b i := by
  by_cases h : i < b.size
  · exact jb_bt a b h
  · have h2 : ¬ a.size + i < (a ++ b).size := by rw [ByteArray.size_append]; omega
    unfold by8 bt
    rw [dif_neg h, dif_neg h2]
theorem jb_ext (a b : ByteArray) (x y : Nat) : (a ++ b).extract (a.size + x) (a.size + y) = b.extract x y := by
  apply ByteArray.ext
  simp [Array.extract_append]
theorem ja_ext (a b : ByteArray) {x y : Nat} (hy : y ≤ a.size) : (a ++ b).extract x y = a.extract x y := by
  apply ByteArray.ext
  simp [Array.extract_append]
  omega
theorem jb_itself (a b : ByteArray) (m x y : Nat) (u v : Int) (op dbl : Bool) : itself (a ++ b) ⟨m, a.size + x, a.size + y, u, op⟩ dbl = itself b ⟨m, x, y, v, op⟩ dbl := by
  have c : (a.size + y = a.size + x + 1) = (y = x + 1) := propext ⟨fun _ => by omega, fun _ => by omega⟩
  unfold itself
  dsimp only
  rw [Nat.add_assoc a.size x 1, jb_by8, jb_ext, jb_ext]
  rw [Nat.add_assoc] at c
  simp only [c]
theorem ja_itself (a b : ByteArray) {m x y : Nat} (hx : x + 1 < a.size) (hy : y ≤ a.size) (u v : Int) (op dbl : Bool) : itself (a ++ b) ⟨m, x, y, u, op⟩ dbl = itself a ⟨m, x, y, v, op⟩ dbl := by
  have h8 : by8 (a ++ b) (x + 1) = by8 a (x + 1) := by rw [by8_append _ _ _ (by omega), if_pos hx]
  unfold itself
  dsimp only
  rw [h8, ja_ext a b hy, ja_ext a b hy]
/-- The pieces behind the joint are the second text's. -/
theorem jb_Rm {a b : ByteArray} (ha : nt a a.size = []) (hb : ∀ i, i < b.size → by8 b i ≠ 35) {dbl : Bool} {sub sub' : Nat → List Pc} {e : Nat} (he : e ≤ b.size) (hsub : ∀ f, f < e → born b f = true → sub' (a.size + f) = sub f) :
    ∀ (d x : Nat) (h : ByteArray) (w : Bool), e - x ≤ d → Rm (a ++ b) dbl sub' (a.size + e) (a.size + x) h w = Rm b dbl sub e x h w := by
  have hz : (a ++ b).size = a.size + b.size := ByteArray.size_append
  intro d
  induction d with
  | zero =>
    intro x h w hd
    rw [Rm_end (by omega), Rm_end (by omega)]
  | succ d ih =>
    intro x h w hd
    by_cases hx : x < e
    · have hxb : x < b.size := by omega
      have hbo := jb_born ha hb hxb
      cases hB : born b x with
      | false =>
        rw [Rm_plain (by omega) (by omega) (hbo.trans hB), Rm_plain he hx hB, Nat.add_assoc a.size x 1, jb_ext]
        exact ih (x + 1) _ _ (by omega)
      | true =>
        obtain ⟨u, hp⟩ := jb_prt ha hb hxb hB
        have hg := to_gt hB hxb
        have hit : itself (a ++ b) (prt (a ++ b) (a.size + x)) dbl = itself b (prt b x) dbl := by
          rw [hp]
          exact jb_itself a b _ _ _ _ (prt b x).up _ _
        have hto : (prt (a ++ b) (a.size + x)).to = a.size + (prt b x).to := by rw [hp]
        cases hI : itself b (prt b x) dbl with
        | some t =>
          rw [Rm_self (by omega) (by omega) (hbo.trans hB) (hit.trans hI), Rm_self he hx hB hI, hto]
          exact ih _ _ _ (by omega)
        | none =>
          rw [Rm_sub (by omega) (by omega) (hbo.trans hB) (hit.trans hI), Rm_sub he hx hB hI, hto, hsub x hx hB]
          rw [ih _ _ _ (by omega)]
    · rw [Rm_end (by omega), Rm_end (by omega)]
theorem tail_head (m : Nat) : tailM m ≤ headM m := by unfold tailM headM; (repeat' split) <;> omega
theorem insT_mv (n m x y : Nat) (u v : Int) (op : Bool) : insT ⟨m, n + x, n + y, u, op⟩ = n + insT ⟨m, x, y, v, op⟩ := by
  have := tail_head m
  unfold insT
  dsimp only
  by_cases h1 : y ≤ x + headM m
  · rw [if_pos (by omega), if_pos h1]; omega
  · rw [if_neg (by omega), if_neg h1]
    by_cases h2 : op = true
    · rw [if_pos h2, if_pos h2]
    · rw [if_neg h2, if_neg h2]
      by_cases h3 : x + headM m ≤ y - tailM m
      · rw [if_pos (by omega), if_pos h3]; omega
      · rw [if_neg (by omega), if_neg h3]; omega
theorem jb_subD {a b : ByteArray} (ha : nt a a.size = []) (hb : ∀ i, i < b.size → by8 b i ≠ 35) {f : Nat} (hf : f < b.size) (hB : born b f = true) : subD (a ++ b) (a.size + f) = subD b f := by
  obtain ⟨u, hp⟩ := jb_prt ha hb hf hB
  unfold subD
  rw [hp]
  dsimp only
  rw [jb_ext]
theorem jb_subT {a b : ByteArray} (ha : nt a a.size = []) (hb : ∀ i, i < b.size → by8 b i ≠ 35) {f : Nat} (hf : f < b.size) (hB : born b f = true) : subT (a ++ b) (a.size + f) = subT b f := by
  obtain ⟨u, hp⟩ := jb_prt ha hb hf hB
  have hi : insT (prt (a ++ b) (a.size + f)) = a.size + insT (prt b f) := by rw [hp]; exact insT_mv _ _ _ _ _ (prt b f).up _
  have hm : (prt (a ++ b) (a.size + f)).mode = (prt b f).mode := by rw [hp]
  have hto : (prt (a ++ b) (a.size + f)).to = a.size + (prt b f).to := by rw [hp]
  unfold subT
  rw [hi, hm, hto, jb_ext, Nat.add_assoc a.size f 1, jb_ext]
  by_cases h5 : (prt b f).mode = 5
  · rw [if_pos h5, if_pos h5]
    unfold DB
    have hl := (insT_le (prt b f) (z := b.size) (by rw [prt_frm]; exact to_gt hB hf) (prt_le hf hB).1 (by rw [h5]; rfl)).2
    exact jb_Rm ha hb hl (fun g hg hG => jb_subD ha hb (by omega) hG) _ _ _ _ (Nat.le_refl _)
  · rw [if_neg h5, if_neg h5]
/-- Behind the joint: the second text's pieces, but for what stands for itself ahead of them. -/
theorem jb_all {a b : ByteArray} (ha : nt a a.size = []) (hb : ∀ i, i < b.size → by8 b i ≠ 35) (h : ByteArray) (w : Bool) : Rm (a ++ b) false (subT (a ++ b)) (a ++ b).size a.size h w = Rm b false (subT b) b.size 0 h w := by
  have hz : (a ++ b).size = a.size + b.size := ByteArray.size_append
  rw [hz]
  exact jb_Rm ha hb (Nat.le_refl _) (fun f hf hB => jb_subT ha hb hf hB) b.size 0 h w (by omega)
theorem fl_cat (dbl : Bool) (h : ByteArray) (w : Bool) : catW (fun x => x.t) (fl dbl h w) = h ∧ (fl dbl h w).any (fun x => x.ex) = false := by
  unfold fl
  by_cases hc : h.size = 0 ∧ w = false
  · rw [if_pos hc]
    exact ⟨(ByteArray.ext (Array.eq_empty_of_size_eq_zero hc.1)).symm, rfl⟩
  · rw [if_neg hc]
    exact ⟨ByteArray.append_empty, rfl⟩
/-- What stands for itself ahead of a scan comes first, whatever the pieces. -/
theorem rm_cat {s : ByteArray} {dbl : Bool} {sub : Nat → List Pc} {e : Nat} : ∀ (k x : Nat) (h : ByteArray) (w : Bool),
    catW (fun x => x.t) (rm s dbl sub e k x h w) = h ++ catW (fun x => x.t) (rm s dbl sub e k x ByteArray.empty false) ∧ (rm s dbl sub e k x h w).any (fun x => x.ex) = (rm s dbl sub e k x ByteArray.empty false).any (fun x => x.ex)
  | 0, x, h, w => by
    have h1 := fl_cat dbl h w
    have h2 := fl_cat dbl ByteArray.empty false
    unfold rm
    rw [h1.1, h1.2, h2.1, h2.2, ByteArray.append_empty]
    exact ⟨rfl, rfl⟩
  | k + 1, x, h, w => by
    have h1 := fl_cat dbl h w
    have h3 := fl_cat dbl h false
    have h2 := fl_cat dbl ByteArray.empty false
    unfold rm
    by_cases hx : x < e
    · rw [if_pos hx, if_pos hx]
      by_cases hB : born s x = true
      · rw [if_pos hB, if_pos hB]
        cases hI : itself s (prt s x) dbl with
        | some t =>
          simp only
          have a1 := rm_cat (s := s) (dbl := dbl) (sub := sub) (e := e) k (prt s x).to (h ++ t) w
          have a2 := rm_cat (s := s) (dbl := dbl) (sub := sub) (e := e) k (prt s x).to (ByteArray.empty ++ t) false
          rw [a1.1, a1.2, a2.1, a2.2, ByteArray.empty_append, ByteArray.append_assoc]
          exact ⟨rfl, rfl⟩
        | none =>
          simp only
          rw [catW_append, catW_append _ (fl dbl ByteArray.empty false), h3.1, h2.1, ByteArray.empty_append, List.any_append, List.any_append (xs := fl dbl ByteArray.empty false), h3.2, h2.2]
          exact ⟨rfl, rfl⟩
      · rw [if_neg hB, if_neg hB]
        have a1 := rm_cat (s := s) (dbl := dbl) (sub := sub) (e := e) k (x + 1) (h ++ s.extract x (x + 1)) w
        have a2 := rm_cat (s := s) (dbl := dbl) (sub := sub) (e := e) k (x + 1) (ByteArray.empty ++ s.extract x (x + 1)) false
        rw [a1.1, a1.2, a2.1, a2.2, ByteArray.empty_append, ByteArray.append_assoc]
        exact ⟨rfl, rfl⟩
    · rw [if_neg hx, if_neg hx]
      rw [h1.1, h1.2, h2.1, h2.2, ByteArray.append_empty]
      exact ⟨rfl, rfl⟩
end Go.Proofs.Ytiklnlkakhghdaa
namespace Go.Proofs.Ytiklnlkakhghdaa
open Go.RowKit
set_option linter.unusedVariables false

theorem ja_12 {a : ByteArray} {f : Nat} (hm : (prt a f).mode = 12) : (subT a f).any (fun x => x.ex) = true := by
  unfold subT
  rw [if_neg (by omega), if_neg (by omega)]
  rfl
section
variable {a : ByteArray} (ha : nt a a.size = []) (b : ByteArray)
include ha
/-- A part ahead of the joint begins ahead of the last byte. -/
theorem ja_lt {f : Nat} (hf : f < a.size) (hB : born a f = true) : f + 1 < a.size := by
  have h1 := (ja_eK ha ByteArray.empty hf).2
  have h2 := eK_born hB hf
  omega
/-- Pieces ahead of the joint, none of which is to be expanded: as they were. -/
theorem ja_Rm {dbl : Bool} {sub sub' : Nat → List Pc} {e : Nat} (he : e ≤ a.size)
    (h12 : ∀ f, f < e → born a f = true → (prt a f).mode = 12 → (sub f).any (fun x => x.ex) = true)
    (hsub : ∀ f, f < e → born a f = true → (sub f).any (fun x => x.ex) = false → sub' f = sub f) :
    ∀ (d x : Nat) (h : ByteArray) (w : Bool), e - x ≤ d → (Rm a dbl sub e x h w).any (fun x => x.ex) = false → Rm (a ++ b) dbl sub' e x h w = Rm a dbl sub e x h w := by
  have hz : (a ++ b).size = a.size + b.size := ByteArray.size_append
  intro d
  induction d with
  | zero =>
    intro x h w hd _
    rw [Rm_end (by omega), Rm_end (by omega)]
  | succ d ih =>
    intro x h w hd hany
    by_cases hx : x < e
    · have hxa : x < a.size := by omega
      have hbo := ja_born a b hxa
      cases hB : born a x with
      | false =>
        rw [Rm_plain he hx hB] at hany ⊢
        rw [Rm_plain (by omega) hx (hbo.trans hB), ja_ext a b (by omega)]
        exact ih (x + 1) _ _ (by omega) hany
      | true =>
        have hg := to_gt hB hxa
        have hle := (prt_le hxa hB).1
        have hl1 := ja_lt ha hxa hB
        cases hI : itself a (prt a x) dbl with
        | some t =>
          rw [Rm_self he hx hB hI] at hany ⊢
          rcases ja_prt ha b hxa hB with ⟨m12, hto⟩ | ⟨u, hp⟩
          · exfalso
            unfold itself at hI
            rw [prt_frm] at hI
            rw [if_neg (by omega), if_pos m12, if_neg hto] at hI
            cases hI
          · have hit : itself (a ++ b) (prt (a ++ b) x) dbl = itself a (prt a x) dbl := by
              rw [hp]
              have := ja_itself a b (m := (prt a x).mode) (x := (prt a x).frm) (y := (prt a x).to) (by rw [prt_frm]; exact hl1) hle u (prt a x).up (prt a x).op dbl
              exact this
            have hto : (prt (a ++ b) x).to = (prt a x).to := by rw [hp]
            rw [Rm_self (by omega) hx (hbo.trans hB) (hit.trans hI), hto]
            exact ih _ _ _ (by omega) hany
        | none =>
          rw [Rm_sub he hx hB hI] at hany ⊢
          rw [List.any_append, List.any_append, Bool.or_eq_false_iff, Bool.or_eq_false_iff] at hany
          rcases ja_prt ha b hxa hB with ⟨m12, hto⟩ | ⟨u, hp⟩
          · have := h12 x hx hB m12
            rw [hany.2.1] at this
            cases this
          · have hit : itself (a ++ b) (prt (a ++ b) x) dbl = itself a (prt a x) dbl := by
              rw [hp]
              have := ja_itself a b (m := (prt a x).mode) (x := (prt a x).frm) (y := (prt a x).to) (by rw [prt_frm]; exact hl1) hle u (prt a x).up (prt a x).op dbl
              exact this
            have hto : (prt (a ++ b) x).to = (prt a x).to := by rw [hp]
            rw [Rm_sub (by omega) hx (hbo.trans hB) (hit.trans hI), hto, hsub x hx hB hany.2.1, ih _ _ _ (by omega) hany.2.2]
    · rw [Rm_end (by omega), Rm_end (by omega)]
theorem ja_subT {f : Nat} (hf : f < a.size) (hB : born a f = true) (hany : (subT a f).any (fun x => x.ex) = false) : subT (a ++ b) f = subT a f := by
  have hle := (prt_le hf hB).1
  have hg := to_gt hB hf
  by_cases h5 : (prt a f).mode = 5
  · rcases ja_prt ha b hf hB with ⟨m12, hto⟩ | ⟨u, hp⟩
    · omega
    · have hi : insT (prt (a ++ b) f) = insT (prt a f) := by rw [hp]; rfl
      have hm : (prt (a ++ b) f).mode = (prt a f).mode := by rw [hp]
      unfold subT at hany ⊢
      rw [if_pos h5] at hany ⊢
      rw [if_pos (hm.trans h5), hi]
      have hl := (insT_le (prt a f) (z := a.size) (by rw [prt_frm]; exact hg) hle (by rw [h5]; rfl)).2
      unfold DB at hany ⊢
      refine ja_Rm ha b hl (fun g hg hG _ => rfl) (fun g hg hG hh => ?_) _ _ _ _ (Nat.le_refl _) hany
      cases hh
  · by_cases h4 : (prt a f).mode = 4 ∨ (prt a f).mode = 13
    · rcases ja_prt ha b hf hB with ⟨m12, hto⟩ | ⟨u, hp⟩
      · omega
      · have hi : insT (prt (a ++ b) f) = insT (prt a f) := by rw [hp]; rfl
        have hm : (prt (a ++ b) f).mode = (prt a f).mode := by rw [hp]
        have hl := (insT_le (prt a f) (z := a.size) (by rw [prt_frm]; exact hg) hle (by rcases h4 with h | h <;> rw [h] <;> rfl)).2
        unfold subT
        rw [if_neg h5, if_pos h4, if_neg (by omega), if_pos (by omega), hi, ja_ext a b hl]
    · exfalso
      unfold subT at hany
      rw [if_neg h5, if_neg h4] at hany
      cases hany
/-- The pieces of both texts: what is written of them is the one's and the other one's. -/
theorem ja_all (hb : ∀ i, i < b.size → by8 b i ≠ 35) : ∀ (d x : Nat) (h : ByteArray) (w : Bool), a.size - x ≤ d → x ≤ a.size → (Rm a false (subT a) a.size x h w).any (fun x => x.ex) = false →
    catW (fun x => x.t) (Rm (a ++ b) false (subT (a ++ b)) (a ++ b).size x h w) = catW (fun x => x.t) (Rm a false (subT a) a.size x h w) ++ catW (fun x => x.t) (PCs b) ∧
    (Rm (a ++ b) false (subT (a ++ b)) (a ++ b).size x h w).any (fun x => x.ex) = (PCs b).any (fun x => x.ex) := by
  have hz : (a ++ b).size = a.size + b.size := ByteArray.size_append
  have atEnd : ∀ (h : ByteArray) (w : Bool), catW (fun x => x.t) (Rm (a ++ b) false (subT (a ++ b)) (a ++ b).size a.size h w) = catW (fun x => x.t) (Rm a false (subT a) a.size a.size h w) ++ catW (fun x => x.t) (PCs b) ∧
    (Rm (a ++ b) false (subT (a ++ b)) (a ++ b).size a.size h w).any (fun x => x.ex) = (PCs b).any (fun x => x.ex) := by
    intro h w
    rw [jb_all ha hb h w, Rm_end (s := a) (by omega), (fl_cat false h w).1]
    exact rm_cat _ _ _ _
  intro d
  induction d with
  | zero =>
    intro x h w hd hx _
    obtain rfl : x = a.size := by omega
    exact atEnd h w
  | succ d ih =>
    intro x h w hd hxl hany
    by_cases hx : x < a.size
    · have hbo := ja_born a b hx
      cases hB : born a x with
      | false =>
        rw [Rm_plain (Nat.le_refl _) hx hB] at hany ⊢
        rw [Rm_plain (Nat.le_refl _) (by omega) (hbo.trans hB), ja_ext a b (by omega)]
        exact ih (x + 1) _ _ (by omega) (by omega) hany
      | true =>
        have hg := to_gt hB hx
        have hle := (prt_le hx hB).1
        have hl1 := ja_lt ha hx hB
        cases hI : itself a (prt a x) false with
        | some t =>
          rw [Rm_self (Nat.le_refl _) hx hB hI] at hany ⊢
          rcases ja_prt ha b hx hB with ⟨m12, hto⟩ | ⟨u, hp⟩
          · exfalso
            unfold itself at hI
            rw [prt_frm] at hI
            rw [if_neg (by omega), if_pos m12, if_neg hto] at hI
            cases hI
          · have hit : itself (a ++ b) (prt (a ++ b) x) false = itself a (prt a x) false := by
              rw [hp]
              have := ja_itself a b (m := (prt a x).mode) (x := (prt a x).frm) (y := (prt a x).to) (by rw [prt_frm]; exact hl1) hle u (prt a x).up (prt a x).op false
              exact this
            have hto : (prt (a ++ b) x).to = (prt a x).to := by rw [hp]
            rw [Rm_self (Nat.le_refl _) (by omega) (hbo.trans hB) (hit.trans hI), hto]
            exact ih _ _ _ (by omega) hle hany
        | none =>
          rw [Rm_sub (Nat.le_refl _) hx hB hI] at hany ⊢
          rw [List.any_append, List.any_append, Bool.or_eq_false_iff, Bool.or_eq_false_iff] at hany
          rcases ja_prt ha b hx hB with ⟨m12, hto⟩ | ⟨u, hp⟩
          · have := ja_12 m12
            rw [hany.2.1] at this
            cases this
          · have hit : itself (a ++ b) (prt (a ++ b) x) false = itself a (prt a x) false := by
              rw [hp]
              have := ja_itself a b (m := (prt a x).mode) (x := (prt a x).frm) (y := (prt a x).to) (by rw [prt_frm]; exact hl1) hle u (prt a x).up (prt a x).op false
              exact this
            have hto : (prt (a ++ b) x).to = (prt a x).to := by rw [hp]
            rw [Rm_sub (Nat.le_refl _) (by omega) (hbo.trans hB) (hit.trans hI), hto, ja_subT ha b hx hB hany.2.1]
            have hi := ih (prt a x).to ByteArray.empty false (by omega) hle hany.2.2
            rw [catW_append, catW_append, catW_append, catW_append, hi.1, ByteArray.append_assoc, ByteArray.append_assoc]
            refine ⟨rfl, ?_⟩
            rw [List.any_append, List.any_append, hany.1, hany.2.1, hi.2]
            rfl
    · obtain rfl : x = a.size := by omega
      exact atEnd h w
end
/-- The value of both. -/
theorem join_val {a b : ByteArray} (ha : nt a a.size = []) (hb : ∀ i, i < b.size → by8 b i ≠ 35) (h1 : (PCs a).any (fun x => x.ex) = false) :
    catW (fun x => x.t) (PCs (a ++ b)) = catW (fun x => x.t) (PCs a) ++ catW (fun x => x.t) (PCs b) ∧ (PCs (a ++ b)).any (fun x => x.ex) = (PCs b).any (fun x => x.ex) :=
  ja_all ha b hb a.size 0 ByteArray.empty false (by omega) (Nat.zero_le _) h1
theorem in_not {c : Nat} {b : ByteArray} (h : inB c b = false) (i : Nat) (hi : i < b.size) : by8 b i ≠ c := by
  intro e
  have : inB c b = true := by
    unfold inB
    rw [List.any_eq_true]
    refine ⟨b[i], ?_, ?_⟩
    · show b.data[i] ∈ b.data.toList
      exact Array.mem_toList_iff.2 (Array.getElem_mem _)
    · rw [beq_iff_eq, ← e]
      unfold by8
      rw [bt_eq hi]
  rw [h] at this; cases this
theorem catW_le {s : ByteArray} (hs : s.size ≤ 100) : (catW (fun x => x.t) (PCs s)).size ≤ 100 := by
  have := PCs_tot s
  rw [catW_t]
  omega
/-- A value, where nothing is to be expanded, and where something is. -/
theorem value_yes {s : ByteArray} (hs : s.size ≤ 60000) (h : (PCs s).any (fun x => x.ex) = false) (W : World) :
    Calls Try.prog 9 #[.string s] W fun e w' => e = .returned (.tuple #[.string (catW (fun x => x.t) (PCs s)), .bool true]) ∧ Below W.heap.size W w' := by
  refine (value_any W s hs).mono ?_
  rintro e w' ⟨hr, hB⟩
  unfold MeR at hr
  rw [if_neg (by rw [h]; decide)] at hr
  exact ⟨hr, hB⟩
theorem value_no {s : ByteArray} (hs : s.size ≤ 60000) (h : (PCs s).any (fun x => x.ex) = true) (W : World) :
    Calls Try.prog 9 #[.string s] W fun e w' => e = .returned (.tuple #[.string ⟨#[]⟩, .bool false]) ∧ Below W.heap.size W w' := by
  refine (value_any W s hs).mono ?_
  rintro e w' ⟨hr, hB⟩
  unfold MeR at hr
  rw [if_pos h] at hr
  exact ⟨hr, hB⟩
section
variable (w : World)
set_option maxRecDepth 100000 in
set_option maxHeartbeats 4000000 in
theorem literalJoins_law (a b : ByteArray) (hmaxa : a.size ≤ 9223372036854775807) (hmaxb : b.size ≤ 9223372036854775807) :
    Calls Try.prog 5 #[.string a, .string b] w fun e w' => e = .returned (.bool true) ∧ Below w.heap.size w w' := by
  by_cases hsa : a.size ≤ 100
  · by_cases hsb : b.size ≤ 100
    · have hza : ¬ (100 : Int) < (a.size : Int) := by omega
      have hzb : ¬ (100 : Int) < (b.size : Int) := by omega
      obtain ⟨y, hy⟩ : ∃ y, inB 35 b = y := ⟨_, rfl⟩
      have hin := fun W => in_any 35 b W (by omega)
      rw [hy] at hin
      have HIN := Lib.hid hin
      have HY := Lib.hid hy
      clear hin hy
      cases y with
      | true =>
        go_enter Try.func5, Try.ntmps5
        go_wp2_with fail
        refine (awake8_any _).mono ?_
        rintro e w0 ⟨rfl, hB0⟩
        go_wp2_with fail
        refine (HIN.out _).mono ?_
        rintro e w1 ⟨rfl, rfl⟩
        go_wp2
        go_ret
        exact ⟨rfl, hB0⟩
      | false =>
        have hst := nt_st a a.size
        obtain ⟨n, hn⟩ : ∃ n, (runK a a.size).st.reverse.length = n := ⟨_, rfl⟩
        have hn1 : n = (nt a a.size).length + 1 := by rw [← hn, hst]; simp
        have hnl : n ≤ 101 := by
          have := nt_len a a.size
          omega
        have HRUN := Lib.hid (fun W => run_any W a (by omega))
        have HN := Lib.hid hn
        have HN1 := Lib.hid hn1
        clear hst hn1
        go_enter Try.func5, Try.ntmps5
        go_wp2_with fail
        refine (awake8_any _).mono ?_
        rintro e w0 ⟨rfl, hB0⟩
        go_wp2_with fail
        refine (HIN.out _).mono ?_
        rintro e w1 ⟨rfl, rfl⟩
        go_wp2_with fail
        refine (HRUN.out _).mono ?_
        rintro e w2 ⟨⟨v, rfl, hR⟩, hB2⟩
        obtain ⟨g, cap, rfl, _, hF⟩ := hR
        rw [hn]
        clear hF hn
        obtain ⟨fr, hfr⟩ : ∃ fr, (runK a a.size).fresh = fr := ⟨_, rfl⟩
        rw [hfr]
        clear hfr
        have hB3 := hB0.trans (hB2.mono hB0.size)
        cases h1 : (PCs a).any (fun x => x.ex) with
        | true =>
          have HV := Lib.hid (value_no (s := a) (by omega) h1)
          cases h2 : (PCs b).any (fun x => x.ex) with
          | true =>
            have HW := Lib.hid (value_no (s := b) (by omega) h2)
            clear h1 h2
            go_wp2_with fail
            refine (HV.out _).mono ?_
            rintro e w4 ⟨rfl, hB4⟩
            go_wp2_with fail
            refine (HW.out _).mono ?_
            rintro e w5 ⟨rfl, hB5⟩
            have hB6 := hB3.trans (hB4.mono hB3.size)
            have hB7 := hB6.trans (hB5.mono hB6.size)
            go_wp2
            all_goals
              go_ret
              exact ⟨rfl, hB7⟩
          | false =>
            have HW := Lib.hid (value_yes (s := b) (by omega) h2)
            obtain ⟨Y, hY⟩ : ∃ Y, catW (fun x => x.t) (PCs b) = Y := ⟨_, rfl⟩
            rw [hY] at HW
            clear h1 h2
            go_wp2_with fail
            refine (HV.out _).mono ?_
            rintro e w4 ⟨rfl, hB4⟩
            go_wp2_with fail
            refine (HW.out _).mono ?_
            rintro e w5 ⟨rfl, hB5⟩
            have hB6 := hB3.trans (hB4.mono hB3.size)
            have hB7 := hB6.trans (hB5.mono hB6.size)
            go_wp2
            all_goals
              go_ret
              exact ⟨rfl, hB7⟩
        | false =>
          have HV := Lib.hid (value_yes (s := a) (by omega) h1)
          have hlx := catW_le (s := a) hsa
          obtain ⟨X, hX⟩ : ∃ X, catW (fun x => x.t) (PCs a) = X := ⟨_, rfl⟩
          rw [hX] at HV hlx
          cases h2 : (PCs b).any (fun x => x.ex) with
          | true =>
            have HW := Lib.hid (value_no (s := b) (by omega) h2)
            clear h1 h2
            go_wp2_with fail
            refine (HV.out _).mono ?_
            rintro e w4 ⟨rfl, hB4⟩
            go_wp2_with fail
            refine (HW.out _).mono ?_
            rintro e w5 ⟨rfl, hB5⟩
            have hB6 := hB3.trans (hB4.mono hB3.size)
            have hB7 := hB6.trans (hB5.mono hB6.size)
            go_wp2
            all_goals
              go_ret
              exact ⟨rfl, hB7⟩
          | false =>
            have HW := Lib.hid (value_yes (s := b) (by omega) h2)
            have hly := catW_le (s := b) hsb
            obtain ⟨Y, hY⟩ : ∃ Y, catW (fun x => x.t) (PCs b) = Y := ⟨_, rfl⟩
            rw [hY] at HW hly
            by_cases h0 : n = 1
            · have hnt : nt a a.size = [] := List.eq_nil_of_length_eq_zero (by have := HN1.out; omega)
              have hj := join_val hnt (in_not HY.out) h1
              have hzab : (a ++ b).size = a.size + b.size := ByteArray.size_append
              obtain ⟨AB, hAB⟩ : ∃ AB, a ++ b = AB := ⟨_, rfl⟩
              rw [hAB] at hj hzab
              have HZ := value_yes (s := AB) (by omega) (hj.2.trans h2)
              rw [hj.1, hX, hY] at HZ
              have hxy : (X ++ Y).size = X.size + Y.size := ByteArray.size_append
              obtain ⟨XY, hXY⟩ : ∃ XY, X ++ Y = XY := ⟨_, rfl⟩
              rw [hXY] at HZ hxy
              have HZ := Lib.hid HZ
              have hABz : AB.size ≤ 200 := by omega
              have hXYz : XY.size ≤ 200 := by omega
              have hsum : a.size + b.size ≤ 200 := by omega
              have hsum2 : X.size + Y.size ≤ 200 := by omega
              subst h0
              clear h1 h2 hnt hj hzab hxy hX hY
              go_wp2_with fail
              refine (HV.out _).mono ?_
              rintro e w4 ⟨rfl, hB4⟩
              go_wp2_with fail
              refine (HW.out _).mono ?_
              rintro e w5 ⟨rfl, hB5⟩
              have hB6 := hB3.trans (hB4.mono hB3.size)
              have hB7 := hB6.trans (hB5.mono hB6.size)
              go_wp2_with fail
              refine (HZ.out _).mono ?_
              rintro e w6 ⟨rfl, hB8⟩
              have hB9 := hB7.trans (hB8.mono hB7.size)
              go_wp2
              all_goals
                go_ret
                exact ⟨rfl, hB9⟩
            · have h0' : ((n : Int) == 1) = false := beq_eq_false_iff_ne.2 (by omega)
              clear h1 h2 hX hY
              go_wp2_with fail
              refine (HV.out _).mono ?_
              rintro e w4 ⟨rfl, hB4⟩
              go_wp2_with fail
              refine (HW.out _).mono ?_
              rintro e w5 ⟨rfl, hB5⟩
              have hB6 := hB3.trans (hB4.mono hB3.size)
              have hB7 := hB6.trans (hB5.mono hB6.size)
              go_wp2
              all_goals
                go_ret
                exact ⟨rfl, hB7⟩
    · have hza : ¬ (100 : Int) < (a.size : Int) := by omega
      have hzb : (100 : Int) < (b.size : Int) := by omega
      go_enter Try.func5, Try.ntmps5
      go_wp2_with fail
      refine (awake8_any _).mono ?_
      rintro e w0 ⟨rfl, hB0⟩
      go_wp2
      go_ret
      exact ⟨rfl, hB0⟩
  · have hza : (100 : Int) < (a.size : Int) := by omega
    go_enter Try.func5, Try.ntmps5
    go_wp2_with fail
    refine (awake8_any _).mono ?_
    rintro e w0 ⟨rfl, hB0⟩
    go_wp2
    go_ret
    exact ⟨rfl, hB0⟩
end
end Go.Proofs.Ytiklnlkakhghdaa

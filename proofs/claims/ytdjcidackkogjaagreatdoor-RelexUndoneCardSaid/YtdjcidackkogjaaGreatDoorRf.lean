/- Layer 10 (relex), plain: a path of old tokens, of new ones, and of moved old ones is a path of the new text. Condition: where the old ones begin again, both lexings are the same. Date: 2026-11-20.
Layer 10 (relex), plain: the path of the text that an edit of a lexed text comes to. No condition: nothing here speaks of the program.
Layer 10 (relex), plain: two lexings that differ in one document go on alike until it comes; so what reread holds apart is apart, the remembered difference too. No condition: nothing here speaks of the program. -/
import Derived.Test.YtdjcidackkogjaaGreatDoorRxK
namespace Go.Proofs.YtdjcidackkogjaaGreatDoor
open Go
set_option linter.unusedVariables false

theorem Pth.join {s T : ByteArray} {D F : List Dl} {A B C : List (Tk × Mk)} {a0 a1 a2 : Nat} {m0 m1 r E : Mk} (hA : Pth T D 0 Mk.zero A a0 m0) (hB : Pth T F a0 m0 B a1 m1) (hC : Pth s D a2 r C s.size E)
    (h1 : m1.en = F.length) (hm1 : m1.frm ≤ m1.en) (h2 : F.take m0.en = D.take m0.en) (hr : r.frm ≤ r.en) (hrD : r.en ≤ D.length) (hE : E.en = D.length) (hx : mkL m1 F = mkL r D) (hT : Tl s T a2 a1) :
    Pth T (F ++ D.drop r.en) 0 Mk.zero (A ++ B ++ C.map fun q => (q.1.mv a2 a1, q.2.mv m1.en r.en)) (s.size + a1 - a2) (E.mv m1.en r.en) ∧ (E.mv m1.en r.en).en = (F ++ D.drop r.en).length := by
  have hle := Pth.le hB
  have hleC := Pth.le hC
  have hlen : m1.en - m1.frm = r.en - r.frm := by
    have := congrArg (fun x => x.pend.length) hx
    simp only [mkL, List.length_drop, List.length_take] at this
    omega
  have hrm : r.mv m1.en r.en = m1 := by
    have e1 := congrArg Lx.await hx
    have e2 := congrArg Lx.body hx
    simp only [mkL] at e1 e2
    obtain ⟨x1, x2, x3, x4⟩ := m1
    obtain ⟨y1, y2, y3, y4⟩ := r
    simp only [Mk.mv, Mk.mk.injEq] at *
    exact ⟨e1.symm, e2.symm, by omega, by omega⟩
  have hdrop : (F ++ D.drop r.en).drop (r.frm + m1.en - r.en) = D.drop r.frm := by
    have hp := congrArg Lx.pend hx
    simp only [mkL] at hp
    rw [h1, List.take_length] at hp
    rw [show r.frm + m1.en - r.en = m1.frm by omega, List.drop_append_of_le_length (by omega), hp]
    rw [← List.drop_append_of_le_length (by rw [List.length_take]; omega), List.take_append_drop]
  have hA' : Pth T (F ++ D.drop r.en) 0 Mk.zero A a0 m0 := hA.take (by rw [List.take_append_of_le_length (by omega)]; exact h2) (by rw [List.length_append]; omega)
  have hB' : Pth T (F ++ D.drop r.en) a0 m0 B a1 m1 := hB.take (by rw [List.take_append_of_le_length (by omega)]) (by rw [List.length_append]; omega)
  have hC' := Pth.mv (t := T) (F := F ++ D.drop r.en) (f := r.frm) (p := m1.en) (q := r.en) (b := a1) (by omega) hdrop (by rw [List.length_append, List.length_drop]; omega) hC hT (Nat.le_refl _) hr
  rw [hrm] at hC'
  refine ⟨(hA'.app hB').app hC', ?_⟩
  show E.en + m1.en - r.en = _
  rw [List.length_append, List.length_drop]
  omega
theorem SaX.same {o q : Mk} {D F : List Dl} {df df' : Int} (h : SaX o q D (mkL q F) df true df') (ho : o.frm ≤ o.en) (hoD : o.en ≤ D.length) (hq : q.frm ≤ q.en) (hqF : q.en ≤ F.length) : mkL q F = mkL o D := by
  rcases h with ⟨_, h, _⟩ | ⟨⟨f1, f2, f3⟩, _, n, hn, _, hB, he, _⟩
  · cases h
  · have hn2 : n = o.en - o.frm := by simpa using hB
    have hp : (mkL q F).pend = (mkL o D).pend := by
      refine List.ext_getElem? fun i => ?_
      by_cases hi : i < o.en - o.frm
      · rw [pend_at (F := D) hi]
        exact (he i (by omega)).symm
      · rw [List.getElem?_eq_none (by simp only [mkL, List.length_drop, List.length_take]; omega), List.getElem?_eq_none (by simp only [mkL, List.length_drop, List.length_take]; omega)]
    show (⟨q.await, (mkL q F).pend, q.body⟩ : Lx) = ⟨o.await, (mkL o D).pend, o.body⟩
    rw [hp, f1, f2]
theorem Pth.from {s : ByteArray} {D : List Dl} {I : List (Tk × Mk)} {a b : Nat} {m n : Mk} (h : Pth s D a m I b n) {k : Nat} {r : Tk × Mk} (hr : I[k]? = some r) : Pth s D a m (I.take k) r.1.frm r.2 ∧ Pth s D r.1.frm r.2 (I.drop k) b n := by
  rw [← List.take_append_drop k I] at h
  obtain ⟨c, u, h1, h2⟩ := h.split
  have hd : I.drop k = r :: I.drop (k + 1) := by
    have hl := (List.getElem?_eq_some_iff.1 hr)
    rw [List.drop_eq_getElem_cons hl.1, hl.2]
  rw [hd] at h2
  have e1 : r.2 = u := h2.2.1
  have e2 : r.1.frm = c := by rw [h2.2.2.1]; exact (tkN_ok _ h2.1).1
  rw [e1, e2]
  refine ⟨h1, ?_⟩
  rw [hd]
  exact h2
end Go.Proofs.YtdjcidackkogjaaGreatDoor
namespace Go.Proofs.YtdjcidackkogjaaGreatDoor
open Go Go.RowKit
set_option linter.unusedVariables false

theorem Pth.cut {s : ByteArray} {D : List Dl} {I : List (Tk × Mk)} {E : Mk} (h : Pth s D 0 Mk.zero I s.size E) {k : Nat} (hk : k ≤ I.length) : Pth s D 0 Mk.zero (I.take k) (atAt I k) (mkAt I E k) ∧ Pth s D (atAt I k) (mkAt I E k) (I.drop k) s.size E := by
  have h0 := h
  rw [← List.take_append_drop k I] at h0
  obtain ⟨c, u, h1, h2⟩ := h0.split
  have hc : atAt I k = c := by
    match k, hk with
    | 0, _ =>
      obtain ⟨e, _⟩ := h1
      exact e
    | j + 1, hk =>
      have hg : I[j]? = some (I[j]'(by omega)) := List.getElem?_eq_getElem _
      have e : I.take (j + 1) = I.take j ++ [I[j]'(by omega)] := by simp
      rw [e] at h1
      obtain ⟨c1, u1, _, g2⟩ := h1.split
      obtain ⟨_, _, _, _, _, g3, _⟩ := g2
      show (match I[j]? with | some q => q.1.en | none => 0) = c
      rw [hg]
      exact g3
  have hu : mkAt I E k = u := by
    unfold mkAt
    rcases Nat.lt_or_ge k I.length with hl | hl
    · have hg : I[k]? = some (I[k]'hl) := List.getElem?_eq_getElem _
      rw [List.drop_eq_getElem_cons hl] at h2
      rw [hg]
      exact h2.2.1
    · rw [List.getElem?_eq_none hl]
      rw [List.drop_eq_nil_of_le hl] at h2
      exact h2.2.symm
  rw [hc, hu]
  exact ⟨h1, h2⟩
theorem bt_dob {s d n : ByteArray} {k : Nat} (h : k + d.size ≤ s.size) (i : Nat) (hi : i < s.size - d.size + n.size) :
    bt (doB s k d n) i = if i < k then bt s i else if i < k + n.size then bt n (i - k) else bt s (i + d.size - n.size) := by
  have z0 : (s.extract 0 k).size = k := by rw [ByteArray.size_extract]; omega
  have z2 : (s.extract (k + d.size) s.size).size = s.size - (k + d.size) := by rw [ByteArray.size_extract]; omega
  have z1 : (s.extract 0 k ++ n).size = k + n.size := by rw [ByteArray.size_append, z0]
  unfold doB
  rw [bt_append _ _ _ (by rw [z1, z2]; omega), z1]
  by_cases h1 : i < k
  · rw [if_pos (by omega), if_pos h1, bt_append _ _ _ (by rw [z0]; omega), z0, if_pos h1, bt_extract _ _ _ _ (by omega) (by omega)]
    simp
  · rw [if_neg h1]
    by_cases h2 : i < k + n.size
    · rw [if_pos h2, if_pos h2, bt_append _ _ _ (by rw [z0]; omega), z0, if_neg h1]
    · rw [if_neg h2, if_neg h2, bt_extract _ _ _ _ (by omega) (by omega)]
      congr 1
      omega
theorem dob_beg {s d n : ByteArray} {k : Nat} (h : k + d.size ≤ s.size) : Beg s (doB s k d n) k :=
  ⟨by omega, by rw [doB_size h]; omega, fun i hi => by unfold by8; rw [bt_dob h i (by omega), if_pos hi]⟩
theorem dob_tl {s d n : ByteArray} {k a b : Nat} (h : k + d.size ≤ s.size) (ha : k + d.size ≤ a) (hs : a ≤ s.size) (hb : b + d.size = a + n.size) : Tl s (doB s k d n) a b := by
  have hz := doB_size (n := n) h
  refine ⟨hs, by omega, by omega, fun i hi => ?_⟩
  unfold by8
  rw [bt_dob h (b + i) (by omega), if_neg (by omega), if_neg (by omega), show b + i + d.size - n.size = a + i by omega]
theorem apply_path {s d n : ByteArray} {at' : Nat} {D : List Dl} {I : List (Tk × Mk)} {E : Mk} (hP : Pth s D 0 Mk.zero I s.size E) (hE : E.en = D.length) (hfit : at' + d.size ≤ s.size) {k : Nat} (hk : k ≤ I.length) (hlo : ∀ i q, i < k → I[i]? = some q → prA at' d.size q.1 = false)
    {F : List Dl} {its : List (Tk × Mk)} {a1 : Nat} {m1 : Mk} (hB : Pth (doB s at' d n) F (atAt I k) (mkAt I E k) its a1 m1) (hF : F.take (mkAt I E k).en = D.take (mkAt I E k).en) (hm : m1.en = F.length) {n0 tail : Nat} (hhi : ∀ i q, n0 ≤ i → I[i]? = some q → prB at' d.size q.1 = true)
    (hend : (tail = 0 ∧ a1 = (doB s at' d n).size) ∨ (∃ q n1 df1 n2 df', n0 ≤ n1 ∧ q.2 = m1 ∧ q.1.frm = a1 ∧ Sc I D ((n.size : Int) - (d.size : Int)) q (mkL m1 F) n1 df1 n2 df' true ∧ n2 < I.length ∧ tail = I.length - n2)) :
    Pth (doB s at' d n) (F ++ D.drop (mkAt I E (I.length - tail)).en) 0 Mk.zero (I.take k ++ its ++ (I.drop (I.length - tail)).map fun q => (q.1.mv s.size (doB s at' d n).size, q.2.mv F.length (mkAt I E (I.length - tail)).en)) (doB s at' d n).size (if 0 < tail then E.mv F.length (mkAt I E (I.length - tail)).en else m1) ∧
    (if 0 < tail then E.mv F.length (mkAt I E (I.length - tail)).en else m1).en = (F ++ D.drop (mkAt I E (I.length - tail)).en).length ∧ k + tail ≤ I.length ∧
    (∀ q ∈ I.drop (I.length - tail), s.size ≤ q.1.frm + (doB s at' d n).size ∧ (mkAt I E (I.length - tail)).en ≤ q.2.frm + F.length) ∧ (0 < tail → (mkAt I E (I.length - tail)).en ≤ E.frm + F.length) := by
  have hz := doB_size (n := n) hfit
  obtain ⟨hA0, hAd⟩ := hP.cut hk
  have hAt : Pth (doB s at' d n) D 0 Mk.zero (I.take k) (atAt I k) (mkAt I E k) := Pth.beg (dob_beg hfit) hA0 fun q hq => by
    obtain ⟨i, hi⟩ := List.getElem?_of_mem hq
    rw [List.getElem?_take] at hi
    by_cases hik : i < k
    · rw [if_pos hik] at hi
      have := hlo i q hik hi
      unfold prA at this
      simp at this
      omega
    · rw [if_neg hik] at hi; cases hi
  have hBl := Pth.le hB
  have hA0l := (Pth.le hA0).2.2.2.2 (Nat.le_refl _) (Nat.zero_le _)
  rcases hend with ⟨rfl, ha1⟩ | ⟨q, n1, df1, n2, df', hn01, hq2, hq1, hsc, hn2, rfl⟩
  · have e1 : mkAt I E (I.length - 0) = E := by unfold mkAt; rw [List.getElem?_eq_none (by omega)]
    rw [e1, hE, List.drop_length, List.append_nil, List.drop_eq_nil_of_le (by omega)]
    simp only [Nat.lt_irrefl, if_false, List.map_nil, List.append_nil, List.not_mem_nil, false_implies, implies_true, and_true]
    refine ⟨?_, hm, by omega⟩
    rw [← ha1]
    exact (hAt.take hF (by omega)).app hB
  · have hlt : 0 < I.length - n2 := by omega
    have e0 : I.length - (I.length - n2) = n2 := by omega
    rw [e0]
    simp only [hlt, if_true]
    obtain ⟨r, dfa, hr, hrq, hsa⟩ := hsc.hits
    have e1 : mkAt I E n2 = r.2 := by unfold mkAt; rw [hr]
    rw [e1]
    obtain ⟨hC0, hC⟩ := hP.from hr
    have hrl := (Pth.le hC0).2.2.2.2 (Nat.le_refl _) (Nat.zero_le _)
    have hm1 := hBl.2.2.2.2 hA0l.1 (by omega)
    rw [hq1] at hrq
    rw [hq2] at hsa
    have hx := hsa.same hrl.1 hrl.2 hm1.1 (by omega)
    have hle := hsc.le
    have hpr := hhi n2 r (by omega) hr
    unfold prB at hpr
    simp only [decide_eq_true_eq] at hpr
    have hrs : r.1.frm ≤ s.size := by have := (Pth.le hC).2.2.1; omega
    have hT : Tl s (doB s at' d n) r.1.frm a1 := dob_tl hfit hpr hrs (by omega)
    obtain ⟨j1, j2⟩ := Pth.join (r := r.2) hAt hB hC hm hm1.1 hF hrl.1 hrl.2 hE hx hT
    have hlen : m1.en - m1.frm = r.2.en - r.2.frm := by
      have := congrArg (fun x => x.pend.length) hx
      simp only [mkL, List.length_drop, List.length_take] at this
      omega
    have hsum : ∀ q ∈ I.drop n2, r.1.frm ≤ q.1.frm ∧ q.1.frm < q.1.en ∧ r.2.frm ≤ q.2.frm := fun q hq => by
      obtain ⟨i, hi⟩ := List.getElem?_of_mem hq
      have := Pth.sum hC i q hi
      exact ⟨this.1, this.2.1, this.2.2.2.1⟩
    have eI : (I.drop n2).map (fun q => (q.1.mv r.1.frm a1, q.2.mv m1.en r.2.en)) = (I.drop n2).map (fun q => (q.1.mv s.size (doB s at' d n).size, q.2.mv F.length r.2.en)) := by
      refine List.map_congr_left fun q hq => ?_
      have := hsum q hq
      unfold Tk.mv
      rw [hm, show q.1.frm + a1 - r.1.frm = q.1.frm + (doB s at' d n).size - s.size by omega, show q.1.en + a1 - r.1.frm = q.1.en + (doB s at' d n).size - s.size by omega]
    rw [eI, hm, show s.size + a1 - r.1.frm = (doB s at' d n).size by omega] at j1
    rw [hm] at j2
    refine ⟨j1, j2, ?_, fun q hq => ⟨by have := hsum q hq; omega, by have := hsum q hq; omega⟩, fun _ => ?_⟩
    · refine Classical.byContradiction fun hn => ?_
      have := hlo n2 r (by omega) hr
      unfold prA at this
      simp at this
      have h3 := (Pth.sum hP n2 r hr).2.1
      omega
    · have := (Pth.le hC).1
      omega
end Go.Proofs.YtdjcidackkogjaaGreatDoor
namespace Go.Proofs.YtdjcidackkogjaaGreatDoor
open Go Go.RowKit
set_option linter.unusedVariables false

theorem docL_open (t : ByteArray) (d : Dl) : ∀ (k a : Nat), t.size - a ≤ k → a ≤ t.size → (docL d (lnF t k a) a).2 = false → (docL d (lnF t k a) a).1 = t.size
  | 0, a, h0, h, _ => by
    show a = t.size
    omega
  | k + 1, a, h0, h, hf => by
    unfold lnF at hf ⊢
    by_cases hl : a < t.size
    · have hg := lnE_gt hl
      rw [if_pos hl] at hf ⊢
      have hz : a + (t.extract a (lnE t a)).size = lnE t a := by rw [ByteArray.size_extract]; omega
      unfold docL at hf ⊢
      rw [hz] at hf ⊢
      split
      · rename_i hd
        rw [if_pos hd] at hf
        cases hf
      · rename_i hd
        rw [if_neg hd] at hf
        exact docL_open t d k (lnE t a) (by omega) hg.2 hf
    · rw [if_neg hl]
      show a = t.size
      omega
theorem docN_open (t : ByteArray) (pend : List Dl) (h : (docN t pend).2 = false) : (docN t pend).1 = t.size := by
  cases pend with
  | nil => rfl
  | cons d ds => exact docL_open t d t.size 0 (by omega) (Nat.zero_le _) h
theorem tk_open {s : ByteArray} {a : Nat} {x : Lx} (ha : a < s.size) (hb : x.body = true) (ho : (tkN s a x).op = true) : (tkN s a x).en = s.size := by
  unfold tkN at ho ⊢
  rw [if_pos hb] at ho ⊢
  have := docN_open (s.extract a s.size) x.pend (by simpa using ho)
  show a + (docN (s.extract a s.size) x.pend).1 = s.size
  rw [this, ByteArray.size_extract]
  omega
theorem empty_alike {α : Type} {l r : List α} (h : l.length = r.length) : l.isEmpty = r.isEmpty := by
  cases l with
  | nil => cases r with
    | nil => rfl
    | cons b r => simp at h
  | cons a l => cases r with
    | nil => simp at h
    | cons b r => rfl
theorem lx_alike {x y : Lx} (h1 : x.await = y.await) (h2 : x.body = y.body) (h3 : x.pend.length = y.pend.length) (k : Nat) (op : Bool) (t : ByteArray) : (lxN x k op t).await = (lxN y k op t).await ∧ (lxN x k op t).body = (lxN y k op t).body := by
  obtain ⟨xa, xp, xb⟩ := x
  obtain ⟨ya, yp, yb⟩ := y
  dsimp only at h1 h2 h3
  subst h1 h2
  have e1 := empty_alike h3
  have e2 : xp.tail.isEmpty = yp.tail.isEmpty := empty_alike (by rw [List.length_tail, List.length_tail, h3])
  unfold lxN
  dsimp only
  by_cases k7 : k = 7
  · simp only [if_pos k7]
    cases op <;> simp [e2]
  · simp only [if_neg k7]
    by_cases k1 : k = 1
    · simp only [if_pos k1]; exact ⟨trivial, trivial⟩
    · simp only [if_neg k1]
      by_cases k2 : k = 2
      · simp only [if_pos k2]; exact ⟨trivial, by rw [e1]⟩
      · simp only [if_neg k2]
        by_cases k4 : k = 4
        · simp only [if_pos k4]; exact ⟨trivial, trivial⟩
        · simp only [if_neg k4]
          by_cases k6 : k = 6 ∧ xa ≠ 0
          · simp only [if_pos k6]; exact ⟨trivial, trivial⟩
          · simp only [if_neg k6]; exact ⟨trivial, trivial⟩
structure Lk (D F : List Dl) (m k : Mk) (df : Nat) : Prop where
  aw : m.await = k.await
  bd : m.body = k.body
  ln : m.en + k.frm = k.en + m.frm
  le : m.frm ≤ df
  lt : df < m.en
  eq : ∀ j, m.frm ≤ j → j < df → D[j]? = F[j + k.frm - m.frm]?
  ne : D[df]? ≠ F[df + k.frm - m.frm]?
theorem Lk.ne' {D F : List Dl} {m k : Mk} {df : Nat} (h : Lk D F m k df) : mkL k F ≠ mkL m D := fun e => by
  have e1 : (mkL k F).pend[df - m.frm]? = (mkL m D).pend[df - m.frm]? := congrArg (fun x : Lx => x.pend[df - m.frm]?) e
  have h1 := h.ln
  have h2 := h.le
  have h3 := h.lt
  rw [pend_at (by omega), pend_at (by omega), show k.frm + (df - m.frm) = df + k.frm - m.frm by omega, show m.frm + (df - m.frm) = df by omega] at e1
  exact h.ne e1.symm
theorem Lk.step {s T : ByteArray} {D F : List Dl} {m k m' k' : Mk} {df a b : Nat} (h : Lk D F m k df) (hT : Tl s T a b) (ha : a < s.size) (hm : Stp s D a m m') (hk : Stp T F b k k') (hf : m'.frm ≤ df) (he : (tkN s a (mkL m D)).en < s.size) (hD : m.en ≤ D.length) (hF : k.en ≤ F.length) :
    tkN T b (mkL k F) = (tkN s a (mkL m D)).mv a b ∧ Lk D F m' k' df ∧ k'.frm + m.frm = k.frm + m'.frm := by
  obtain ⟨t1, t2⟩ := tkN_tl hT (mkL m D) ha
  have hl1 := mkL_len hD
  have hl2 := mkL_len hF
  have i1 := h.ln
  have i2 := h.le
  have i3 := h.lt
  have hlen : (mkL k F).pend.length = (mkL m D).pend.length := by rw [hl1, hl2]; omega
  have htk : tkN T b (mkL k F) = tkN T b (mkL m D) := by
    have hbd : (mkL k F).body = (mkL m D).body := h.bd.symm
    cases hb : m.body with
    | false =>
      have q1 : (mkL k F).body = false := hbd.trans hb
      have q2 : (mkL m D).body = false := hb
      unfold tkN
      rw [if_neg (by rw [q1]; simp), if_neg (by rw [q2]; simp)]
    | true =>
      have q1 : (mkL k F).body = true := hbd.trans hb
      have q2 : (mkL m D).body = true := hb
      have hlt : m.frm < df := by
        refine Classical.byContradiction fun hn => ?_
        have hfr : m.frm = df := by omega
        have hpop := hm.f
        unfold popN at hpop
        have hkind : (tkN s a (mkL m D)).kind = 7 := by unfold tkN; rw [if_pos q2]
        cases hop : (tkN s a (mkL m D)).op with
        | true =>
          have := tk_open ha q2 hop
          omega
        | false =>
          rw [if_pos ⟨hkind, hop⟩] at hpop
          omega
      have hhd : (mkL k F).pend.head? = (mkL m D).pend.head? := by
        rw [List.head?_eq_getElem?, List.head?_eq_getElem?, pend_at (by omega), pend_at (by omega), Nat.add_zero, Nat.add_zero]
        have := h.eq m.frm (Nat.le_refl _) hlt
        rw [this]
        congr 1
        omega
      have hdn : ∀ t, docN t (mkL k F).pend = docN t (mkL m D).pend := fun t => by
        revert hhd
        generalize (mkL k F).pend = l1
        generalize (mkL m D).pend = l2
        intro hhd
        cases l1 <;> cases l2 <;> simp at hhd
        · rfl
        · subst hhd; rfl
      unfold tkN
      simp only [q1, q2, if_true, hdn]
  have htk2 : tkN T b (mkL k F) = (tkN s a (mkL m D)).mv a b := htk.trans t1
  have hpp : popN T b (mkL k F) = popN s a (mkL m D) := by unfold popN; rw [htk2]; rfl
  have hps : pushN T b (mkL k F) = pushN s a (mkL m D) := by
    unfold pushN
    rw [htk2]
    have : (mkL k F).await = (mkL m D).await := h.aw.symm
    rw [this]
    rfl
  have f1 := hm.f
  have f2 := hk.f
  have f3 := hm.e
  have f4 := hk.e
  rw [hpp] at f2
  rw [hps] at f4
  have hnx : (nxN T b (mkL k F)).await = (nxN s a (mkL m D)).await ∧ (nxN T b (mkL k F)).body = (nxN s a (mkL m D)).body := by
    rw [← t2]
    unfold nxN
    rw [htk]
    exact lx_alike h.aw.symm h.bd.symm hlen _ _ _
  have g1 := congrArg Lx.await hm.l
  have g2 := congrArg Lx.await hk.l
  have g3 := congrArg Lx.body hm.l
  have g4 := congrArg Lx.body hk.l
  refine ⟨htk2, ⟨?_, ?_, by omega, hf, by omega, fun j h1 h2 => ?_, ?_⟩, by omega⟩
  · exact g1.trans (hnx.1.symm.trans g2.symm)
  · exact g3.trans (hnx.2.symm.trans g4.symm)
  · rw [h.eq j (by omega) h2, show j + k'.frm - m'.frm = j + k.frm - m.frm by omega]
  · rw [show df + k'.frm - m'.frm = df + k.frm - m.frm by omega]
    exact h.ne
theorem Lk.path {s T : ByteArray} {D F : List Dl} {df : Nat} : ∀ {I J : List (Tk × Mk)} {a b a2 b2 : Nat} {m k m2 k2 : Mk}, Lk D F m k df → Tl s T a b → Pth s D a m I a2 m2 → Pth T F b k J b2 k2 → b2 + a = a2 + b → m2.frm ≤ df → a2 < s.size → m.en ≤ D.length → k.en ≤ F.length → Lk D F m2 k2 df
  | [], J, a, b, a2, b2, m, k, m2, k2, h, hT, hI, hJ, he, hf, hs, _, _ => by
    obtain ⟨rfl, rfl⟩ := hI
    have hl := (Pth.le hJ).2.2.1
    have : J = [] := List.eq_nil_of_length_eq_zero (by omega)
    subst this
    obtain ⟨_, rfl⟩ := hJ
    exact h
  | q :: I, J, a, b, a2, b2, m, k, m2, k2, h, hT, ⟨g1, g2, g3, u, g4, g5⟩, hJ, he, hf, hs, hD, hF => by
    have hl := Pth.le g5
    have hok := tkN_ok (mkL m D) g1
    rw [← g3] at hok
    match J, hJ with
    | [], hJ =>
      obtain ⟨e, _⟩ := hJ
      omega
    | p :: J, ⟨j1, j2, j3, v, j4, j5⟩ =>
      obtain ⟨e1, e2, e3⟩ := Lk.step h hT g1 g4 j4 (by omega) (by rw [← g3]; omega) hD hF
      rw [← j3, ← g3] at e1
      have hen : p.1.en = b + (q.1.en - a) := by
        rw [e1]
        show q.1.en + b - a = _
        omega
      have hadd := hT.add (j := q.1.en - a) (by omega)
      rw [show a + (q.1.en - a) = q.1.en by omega, ← hen] at hadd
      exact Lk.path e2 hadd g5 j5 (by omega) hf hs g4.en j4.en
section
variable {s T : ByteArray} {D F : List Dl} {I : List (Tk × Mk)} {E : Mk} (hP : Pth s D 0 Mk.zero I s.size E)
include hP
def Rem (s T : ByteArray) (D F : List Dl) (I : List (Tk × Mk)) (n : Nat) (df : Int) (b : Nat) (k : Mk) : Prop :=
  df = -1 ∨ ∃ (i0 : Nat) (r0 : Tk × Mk) (b0 : Nat) (k0 : Mk) (J : List (Tk × Mk)) (d0 : Nat), i0 < n ∧ I[i0]? = some r0 ∧ Tl s T r0.1.frm b0 ∧ Lk D F r0.2 k0 d0 ∧ df = (d0 : Int) ∧ Pth T F b0 k0 J b k ∧ k0.en ≤ F.length
theorem old_ok {n : Nat} {r : Tk × Mk} (hr : I[n]? = some r) : r.2.frm ≤ r.2.en ∧ r.2.en ≤ D.length ∧ r.1.frm < s.size := by
  obtain ⟨h1, h2⟩ := hP.from hr
  have h3 := (Pth.le h1).2.2.2.2 (Nat.le_refl _) (Nat.zero_le _)
  have h4 := Pth.sum hP n r hr
  exact ⟨h3.1, h3.2, by omega⟩
theorem Rem.cache {n : Nat} {df : Int} {b : Nat} {k : Mk} (h : Rem s T D F I n df b k) {r : Tk × Mk} (hr : I[n]? = some r) (hT : Tl s T r.1.frm b) (hc : (r.2.frm : Int) ≤ df) : mkL k F ≠ mkL r.2 D := by
  rcases h with h | ⟨i0, r0, b0, k0, J, d0, h1, h2, h3, h4, h5, h6, h7⟩
  · omega
  · obtain ⟨p1, p2⟩ := hP.from h2
    obtain ⟨o1, o2, o3⟩ := old_ok hP h2
    obtain ⟨o4, o5, o6⟩ := old_ok hP hr
    have hr' : (I.drop i0)[n - i0]? = some r := by rw [List.getElem?_drop, show i0 + (n - i0) = n by omega]; exact hr
    obtain ⟨p3, _⟩ : Pth s D r0.1.frm r0.2 ((I.drop i0).take (n - i0)) r.1.frm r.2 ∧ True := by
      have := p2
      rw [← List.take_append_drop (n - i0) (I.drop i0)] at this
      obtain ⟨c, u, q1, q2⟩ := this.split
      have hl := (List.getElem?_eq_some_iff.1 hr')
      rw [List.drop_eq_getElem_cons hl.1, hl.2] at q2
      have e1 : r.2 = u := q2.2.1
      have e2 : r.1.frm = c := by rw [q2.2.2.1]; exact (tkN_ok _ q2.1).1
      rw [e1, e2]
      exact ⟨q1, trivial⟩
    have z1 := h3.z
    have z2 := hT.z
    have z3 := h3.la
    have z4 := h3.lb
    have z5 := hT.la
    have z6 := hT.lb
    exact (Lk.path h4 h3 p3 h6 (by omega) (by omega) o6 o2 h7).ne'
theorem Rem.answer {n : Nat} {df df1 : Int} {b : Nat} {k : Mk} (h : Rem s T D F I n df b k) {r : Tk × Mk} (hr : I[n]? = some r) (hT : Tl s T r.1.frm b) (hk : k.frm ≤ k.en) (hkF : k.en ≤ F.length) (hsa : SaX r.2 k D (mkL k F) df false df1) : mkL k F ≠ mkL r.2 D ∧ Rem s T D F I (n + 1) df1 b k := by
  obtain ⟨o4, o5, o6⟩ := old_ok hP hr
  have hmono : Rem s T D F I (n + 1) df b k := by
    rcases h with h | ⟨i0, r0, b0, k0, J, d0, h1, h2⟩
    · exact .inl h
    · exact .inr ⟨i0, r0, b0, k0, J, d0, by omega, h2⟩
  rcases hsa with ⟨hh, _, rfl⟩ | ⟨hfit, hlt, m, hm, rfl, hB, he, hne⟩
  · refine ⟨?_, hmono⟩
    rcases hh with hh | hh
    · intro e
      apply hh
      have e1 := congrArg Lx.await e
      have e2 := congrArg Lx.body e
      have e3 := congrArg (fun x => x.pend.length) e
      simp only [mkL_len hkF, mkL_len o5] at e3
      exact ⟨e1.symm, e2.symm, by omega⟩
    · exact h.cache hP hr hT hh
  · have hm2 : m ≠ r.2.en - r.2.frm := by simpa using hB
    have hf := hfit.2.2
    have hlk : Lk D F r.2 k (r.2.frm + m) := ⟨hfit.1, hfit.2.1, by omega, by omega, by omega, fun j h1 h2 => by
      have := he (j - r.2.frm) (by omega)
      rw [pend_at (by omega), show r.2.frm + (j - r.2.frm) = j by omega, show k.frm + (j - r.2.frm) = j + k.frm - r.2.frm by omega] at this
      exact this, by
      have := hne (by omega)
      rw [pend_at (by omega), show k.frm + m = r.2.frm + m + k.frm - r.2.frm by omega] at this
      exact this⟩
    exact ⟨hlk.ne', .inr ⟨n, r, b, k, [], _, by omega, hr, hT, hlk, rfl, ⟨rfl, rfl⟩, hkF⟩⟩
theorem Rem.scan {more : Int} {q : Tk × Mk} {X : Lx} {n n' : Nat} {df df' : Int} {B : Bool} (hsc : Sc I D more q X n df n' df' B) (hX : X = mkL q.2 F) (hT : ∀ (i : Nat) (r : Tk × Mk), n ≤ i → I[i]? = some r → (r.1.frm : Int) + more = (q.1.frm : Int) → Tl s T r.1.frm q.1.frm) (hk : q.2.frm ≤ q.2.en) (hkF : q.2.en ≤ F.length) (h : Rem s T D F I n df q.1.frm q.2) :
    (∀ i r, n ≤ i → i < n' → I[i]? = some r → (r.1.frm : Int) + more ≤ (q.1.frm : Int) ∧ ((r.1.frm : Int) + more = (q.1.frm : Int) → mkL q.2 F ≠ mkL r.2 D)) ∧
    (B = false → Rem s T D F I n' df' q.1.frm q.2 ∧ ∀ i r, n' ≤ i → I[i]? = some r → (q.1.frm : Int) < (r.1.frm : Int) + more) := by
  have hinc : ∀ (i j : Nat) (r u : Tk × Mk), i < j → I[i]? = some r → I[j]? = some u → r.1.frm < u.1.frm := fun i j r u hij hr hu => by
    have h1 := Pth.inc hP i j r u hr hu hij
    have h2 := Pth.sum hP i r hr
    omega
  induction hsc with
  | @stop n df h0 =>
    refine ⟨fun i r h1 h2 => by omega, fun _ => ⟨h, fun i r h1 hr => ?_⟩⟩
    rcases Nat.lt_or_ge n i with hlt | hge
    · have hl := (List.getElem?_eq_some_iff.1 hr).1
      have hn : I[n]? = some (I[n]'(by omega)) := List.getElem?_eq_getElem _
      have h3 := h0 _ hn
      have h4 := hinc n i _ r hlt hn hr
      omega
    · have : i = n := by omega
      subst this
      exact h0 r hr
  | @skip n n' df df' B r hr hlt _ ih =>
    have hm : Rem s T D F I (n + 1) df q.1.frm q.2 := by
      rcases h with h | ⟨i0, r0, b0, k0, J, d0, h1, h2⟩
      · exact .inl h
      · exact .inr ⟨i0, r0, b0, k0, J, d0, by omega, h2⟩
    obtain ⟨i1, i2⟩ := ih (fun i r' h1 => hT i r' (by omega)) hm
    refine ⟨fun i r' h1 h2 hr' => ?_, i2⟩
    rcases Nat.lt_or_ge n i with hl | hl
    · exact i1 i r' (by omega) h2 hr'
    · have : i = n := by omega
      subst this
      rw [hr] at hr'
      cases hr'
      exact ⟨by omega, fun e => by omega⟩
  | @diff n n' df df1 df' B r hr heq hsa _ ih =>
    subst hX
    obtain ⟨a1, a2⟩ := h.answer hP hr (hT n r (Nat.le_refl _) hr heq) hk hkF hsa
    obtain ⟨i1, i2⟩ := ih (fun i r' h1 => hT i r' (by omega)) a2
    refine ⟨fun i r' h1 h2 hr' => ?_, i2⟩
    rcases Nat.lt_or_ge n i with hl | hl
    · exact i1 i r' (by omega) h2 hr'
    · have : i = n := by omega
      subst this
      rw [hr] at hr'
      cases hr'
      exact ⟨by omega, fun _ => a1⟩
  | @hit n df df1 r hr heq hsa =>
    exact ⟨fun i r h1 h2 => by omega, fun hB => by cases hB⟩
theorem rr_none {more : Int} {n0 : Nat} {a0 : Nat} {m0 : Mk} (hT : ∀ (i : Nat) (r : Tk × Mk) (b : Nat), n0 ≤ i → I[i]? = some r → (r.1.frm : Int) + more = (b : Int) → Tl s T r.1.frm b) (hm0 : m0.frm ≤ m0.en) (hm1 : m0.en ≤ F.length) :
    ∀ {l : List ((Tk × Mk) × Lx)} {n1 : Nat} {df df1 : Int}, Rr I D more l n0 df n1 df1 → df = -1 → ∀ {its : List (Tk × Mk)} {a : Nat} {m : Mk}, l = (its.map fun q => (q, mkL q.2 F)) → Pth T F a0 m0 its a m →
    Rem s T D F I n1 df1 a m ∧ (∀ i r q, n0 ≤ i → I[i]? = some r → q ∈ its → (r.1.frm : Int) + more = (q.1.frm : Int) → mkL q.2 F ≠ mkL r.2 D) ∧ (∀ i r, n0 ≤ i → i < n1 → I[i]? = some r → (r.1.frm : Int) + more < (a : Int)) ∧ n0 ≤ n1 := by
  intro l n1 df df1 hrr
  induction hrr with
  | @nil n df =>
    intro hdf its a m hl hp
    have : its = [] := by
      cases its with
      | nil => rfl
      | cons q l => simp at hl
    subst this
    exact ⟨.inl hdf, fun i r q _ _ hq => by simp at hq, fun i r h1 h2 => by omega, Nat.le_refl _⟩
  | @snoc l q X n n1 n2 df df1 df2 hr hsc ih =>
    intro hdf its a m hl hp
    rcases List.eq_nil_or_concat its with rfl | ⟨its0, q', rfl⟩
    · simp at hl
    · rw [List.concat_eq_append] at hl hp
      rw [List.map_append] at hl
      have h2 := List.append_inj' hl rfl
      have e2 : q = q' ∧ X = mkL q'.2 F := by
        have := h2.2
        simp at this
        exact this
      obtain ⟨rfl, rfl⟩ := e2
      obtain ⟨c, u, p1, p2⟩ := hp.split
      obtain ⟨i1, i2, i3, i4⟩ := ih hT hdf h2.1 p1
      have hc : q.1.frm = c := by rw [p2.2.2.1]; exact (tkN_ok _ p2.1).1
      have hu : q.2 = u := p2.2.1
      rw [← hc, ← hu] at p1 p2 i1
      rw [← hc] at i3
      have hle := (Pth.le p1).2.2.2.2 hm0 hm1
      have hen := (Pth.le hp).2.2.1
      have hqe := Pth.sum p2 0 q rfl
      obtain ⟨s1, s2⟩ := Rem.scan hP hsc rfl (fun i r h1 hr he => hT i r _ (by omega) hr he) hle.1 hle.2 i1
      obtain ⟨s3, s4⟩ := s2 rfl
      have hn := hsc.le.1
      refine ⟨?_, fun i r p h1 hr' hp' he => ?_, fun i r h1 h3 hr' => ?_, by omega⟩
      · rcases s3 with h | ⟨i0, r0, b0, k0, J, d0, g1, g2, g3, g4, g5, g6, g7⟩
        · exact .inl h
        · exact .inr ⟨i0, r0, b0, k0, J ++ [q], d0, g1, g2, g3, g4, g5, g6.app p2, g7⟩
      · rw [List.concat_eq_append] at hp'
        rcases List.mem_append.1 hp' with hq | hq
        · exact i2 i r p h1 hr' hq he
        · have : p = q := by simpa using hq
          subst this
          rcases Nat.lt_or_ge i n1 with hi | hi
          · have := i3 i r h1 hi hr'
            omega
          · rcases Nat.lt_or_ge i n2 with hi2 | hi2
            · exact (s1 i r hi hi2 hr').2 he
            · have := s4 i r hi2 hr'
              omega
      · rcases Nat.lt_or_ge i n1 with hi | hi
        · have := i3 i r h1 hi hr'
          omega
        · have := (s1 i r hi h3 hr').1
          omega
theorem kept_tail {more : Int} {n0 : Nat} {a0 : Nat} {m0 : Mk} (hT : ∀ (i : Nat) (r : Tk × Mk) (b : Nat), n0 ≤ i → I[i]? = some r → (r.1.frm : Int) + more = (b : Int) → Tl s T r.1.frm b) (hm0 : m0.frm ≤ m0.en) (hm1 : m0.en ≤ F.length)
    {its : List (Tk × Mk)} {n1 : Nat} {df1 : Int} {a' : Nat} {m' : Mk} (hr : Rr I D more (its.map fun q => (q, mkL q.2 F)) n0 (-1) n1 df1) (hp : Pth T F a0 m0 its a' m') :
    (∀ i r q, n0 ≤ i → I[i]? = some r → q ∈ its → (r.1.frm : Int) + more = (q.1.frm : Int) → mkL q.2 F ≠ mkL r.2 D) ∧
    ∀ q n2 df', q.2 = m' → q.1.frm = a' → Sc I D more q (mkL m' F) n1 df1 n2 df' true → n0 ≤ n2 ∧ (∀ i r, n0 ≤ i → i < n2 → I[i]? = some r → (r.1.frm : Int) + more ≤ (a' : Int) ∧ ((r.1.frm : Int) + more = (a' : Int) → mkL m' F ≠ mkL r.2 D)) ∧ ∃ r, I[n2]? = some r ∧ (r.1.frm : Int) + more = (a' : Int) ∧ mkL m' F = mkL r.2 D := by
  obtain ⟨h1, h2, h3, h4⟩ := rr_none hP hT hm0 hm1 hr rfl rfl hp
  refine ⟨h2, fun q n2 df' hq1 hq2 hsc => ?_⟩
  subst hq1 hq2
  have hle := (Pth.le hp).2.2.2.2 hm0 hm1
  obtain ⟨s1, _⟩ := Rem.scan hP hsc rfl (fun i r h1 hr he => hT i r _ (by omega) hr he) hle.1 hle.2 h1
  have hn := hsc.le.1
  obtain ⟨r, dfa, r1, r2, r3⟩ := hsc.hits
  obtain ⟨o1, o2, _⟩ := old_ok hP r1
  refine ⟨by omega, fun i r h5 h6 hr' => ?_, r, r1, r2, r3.same o1 o2 hle.1 hle.2⟩
  rcases Nat.lt_or_ge i n1 with hi | hi
  · have := h3 i r h5 hi hr'
    exact ⟨by omega, fun e => by omega⟩
  · exact s1 i r hi h6 hr'
end
def KeptP (I : List (Tk × Mk)) (D : List Dl) (I' : List (Tk × Mk)) (D' : List Dl) (at' dl : Nat) (more : Int) (hd tail : Nat) : Prop :=
  hd + tail ≤ I.length ∧ (∀ i q, I[i]? = some q → (i < hd ↔ q.1.en + 2 ≤ at')) ∧
  (∀ (i j : Nat) (r q : Tk × Mk), i < I.length - tail → at' + dl ≤ r.1.frm → I[i]? = some r → I'[j]? = some q → (r.1.frm : Int) + more = (q.1.frm : Int) → mkL q.2 D' ≠ mkL r.2 D) ∧
  (0 < tail → ∃ (r : Tk × Mk) (j : Nat) (q : Tk × Mk), I[I.length - tail]? = some r ∧ at' + dl ≤ r.1.frm ∧ I'[j]? = some q ∧ (r.1.frm : Int) + more = (q.1.frm : Int) ∧ mkL q.2 D' = mkL r.2 D)
theorem apply_kept {s d n : ByteArray} {at' : Nat} {D : List Dl} {I : List (Tk × Mk)} {E : Mk} (hP : Pth s D 0 Mk.zero I s.size E) (hE : E.en = D.length) (hfit : at' + d.size ≤ s.size) {k : Nat} (hk : k ≤ I.length) (hlo : ∀ i q, i < k → I[i]? = some q → prA at' d.size q.1 = false) (hlo2 : ∀ i q, k ≤ i → I[i]? = some q → prA at' d.size q.1 = true)
    {F : List Dl} {its : List (Tk × Mk)} {a1 : Nat} {m1 : Mk} (hB : Pth (doB s at' d n) F (atAt I k) (mkAt I E k) its a1 m1) (hF : F.take (mkAt I E k).en = D.take (mkAt I E k).en) (hm : m1.en = F.length) {n0 n1 tail : Nat} {df1 : Int} (hhi0 : ∀ i q, i < n0 → I[i]? = some q → prB at' d.size q.1 = false) (hhi : ∀ i q, n0 ≤ i → I[i]? = some q → prB at' d.size q.1 = true)
    (hr : Rr I D ((n.size : Int) - (d.size : Int)) (its.map fun q => (q, mkL q.2 F)) n0 (-1) n1 df1)
    (hend : (tail = 0 ∧ a1 = (doB s at' d n).size) ∨ (∃ q n2 df', q.2 = m1 ∧ q.1.frm = a1 ∧ Sc I D ((n.size : Int) - (d.size : Int)) q (mkL m1 F) n1 df1 n2 df' true ∧ n2 < I.length ∧ tail = I.length - n2)) :
    KeptP I D (I.take k ++ its ++ (I.drop (I.length - tail)).map fun q => (q.1.mv s.size (doB s at' d n).size, q.2.mv F.length (mkAt I E (I.length - tail)).en)) (F ++ D.drop (mkAt I E (I.length - tail)).en) at' d.size ((n.size : Int) - (d.size : Int)) k tail := by
  have hz := doB_size (n := n) hfit
  have hn01 := hr.le.1
  obtain ⟨_, _, hkt, hmv, _⟩ := apply_path hP hE hfit hk hlo hB hF hm (n0 := n0) (tail := tail) hhi (by
    rcases hend with h | ⟨q, n2, df', h1, h2, h3, h4, h5⟩
    · exact .inl h
    · exact .inr ⟨q, n1, df1, n2, df', hn01, h1, h2, h3, h4, h5⟩)
  obtain ⟨hA0, _⟩ := hP.cut hk
  have hA0l := (Pth.le hA0).2.2.2.2 (Nat.le_refl _) (Nat.zero_le _)
  have hBl := Pth.le hB
  have hm1 := hBl.2.2.2.2 hA0l.1 (by omega)
  have hT : ∀ (i : Nat) (r : Tk × Mk) (b : Nat), n0 ≤ i → I[i]? = some r → (r.1.frm : Int) + ((n.size : Int) - (d.size : Int)) = (b : Int) → Tl s (doB s at' d n) r.1.frm b := fun i r b hi hr' he => by
    have hpr := hhi i r hi hr'
    unfold prB at hpr
    simp only [decide_eq_true_eq] at hpr
    have := Pth.sum hP i r hr'
    exact dob_tl hfit hpr (by omega) (by omega)
  obtain ⟨h2, h3⟩ := kept_tail hP hT hA0l.1 (by omega) hr hB
  have hno : ∀ i r, at' + d.size ≤ r.1.frm → I[i]? = some r → n0 ≤ i := fun i r h hi => by
    refine Classical.byContradiction fun hn => ?_
    have := hhi0 i r (by omega) hi
    unfold prB at this
    simp at this
    omega
  have hinc : ∀ (i j : Nat) (r u : Tk × Mk), i < j → I[i]? = some r → I[j]? = some u → r.1.frm < u.1.frm := fun i j r u hij hr hu => by
    have h1 := Pth.inc hP i j r u hr hu hij
    have h2 := Pth.sum hP i r hr
    omega
  have hmk : ∀ m : Mk, m.en ≤ F.length → mkL m (F ++ D.drop (mkAt I E (I.length - tail)).en) = mkL m F := fun m hm => mkL_take (by rw [List.take_append_of_le_length hm])
  have hsum := Pth.sum hB
  refine ⟨hkt, fun i q hi => ⟨fun h => ?_, fun h => ?_⟩, fun i j r q hi hat hr' hj he => ?_, fun htl => ?_⟩
  · have := hlo i q h hi
    unfold prA at this
    simp at this
    omega
  · refine Classical.byContradiction fun hn => ?_
    have := hlo2 i q (by omega) hi
    unfold prA at this
    simp at this
    omega
  · have hin := hno i r hat hr'
    rw [List.getElem?_append] at hj
    by_cases hj1 : j < (I.take k ++ its).length
    · rw [if_pos hj1, List.getElem?_append] at hj
      by_cases hj2 : j < (I.take k).length
      · rw [if_pos hj2, List.getElem?_take] at hj
        have hjk : j < k := by rw [List.length_take] at hj2; omega
        rw [if_pos hjk] at hj
        have := hlo j q hjk hj
        unfold prA at this
        simp at this
        have := Pth.sum hP j q hj
        omega
      · rw [if_neg hj2] at hj
        have hq := List.mem_of_getElem? hj
        have hen := (hsum _ q hj).2.2.2.2.2.2
        rw [hmk q.2 (by omega)]
        exact h2 i r q hin hr' hq he
    · rw [if_neg hj1, List.getElem?_map] at hj
      rcases hend with ⟨rfl, _⟩ | ⟨q0, n2, df', e1, e2, hsc, e4, rfl⟩
      · rw [List.drop_eq_nil_of_le (by omega)] at hj
        simp at hj
      · rw [show I.length - (I.length - n2) = n2 by omega] at hi hj hmv
        obtain ⟨g1, g2, r2, g3, g4, _⟩ := h3 q0 n2 df' e1 e2 hsc
        cases hu : (I.drop n2)[j - (I.take k ++ its).length]? with
        | none => rw [hu] at hj; cases hj
        | some u =>
          rw [hu] at hj
          simp only [Option.map_some, Option.some.injEq] at hj
          subst hj
          have hu2 := hu
          rw [List.getElem?_drop] at hu
          have h5 := hinc i _ r u (show i < n2 + (j - (I.take k ++ its).length) by omega) hr' hu
          have h6 := (hmv u (List.mem_of_getElem? hu2)).1
          simp only [Tk.mv] at he
          omega
  · rcases hend with ⟨rfl, _⟩ | ⟨q0, n2, df', e1, e2, hsc, e4, rfl⟩
    · omega
    · rw [show I.length - (I.length - n2) = n2 by omega] at hmv hmk ⊢
      obtain ⟨g1, g2, r2, g3, g4, g5⟩ := h3 q0 n2 df' e1 e2 hsc
      have hpr := hhi n2 r2 g1 g3
      unfold prB at hpr
      simp only [decide_eq_true_eq] at hpr
      have eat : mkAt I E n2 = r2.2 := by unfold mkAt; rw [g3]
      rw [eat] at hmv hmk ⊢
      obtain ⟨hC0, hC⟩ := hP.from g3
      have hrl := (Pth.le hC0).2.2.2.2 (Nat.le_refl _) (Nat.zero_le _)
      have hdr : (I.drop n2)[0]? = some r2 := by rw [List.getElem?_drop]; exact g3
      have h7 := (hmv r2 (List.mem_of_getElem? hdr)).1
      have hlen : m1.en - m1.frm = r2.2.en - r2.2.frm := by
        have := congrArg (fun x => x.pend.length) g5
        simp only [mkL, List.length_drop, List.length_take] at this
        omega
      have hrm : r2.2.mv F.length r2.2.en = m1 := by
        have e1 := congrArg Lx.await g5
        have e2 := congrArg Lx.body g5
        simp only [mkL] at e1 e2
        obtain ⟨x1, x2, x3, x4⟩ := m1
        obtain ⟨t2, y1, y2, y3, y4⟩ := r2
        simp only [Mk.mv, Mk.mk.injEq] at *
        exact ⟨e1.symm, e2.symm, by omega, by omega⟩
      refine ⟨r2, (I.take k ++ its).length, (r2.1.mv s.size (doB s at' d n).size, r2.2.mv F.length r2.2.en), g3, hpr, ?_, ?_, ?_⟩
      · rw [List.getElem?_append_right (Nat.le_refl _), Nat.sub_self, List.getElem?_map, hdr]
        rfl
      · simp only [Tk.mv]
        omega
      · show mkL (r2.2.mv F.length r2.2.en) _ = _
        rw [hrm, hmk m1 (by omega)]
        exact g5
end Go.Proofs.YtdjcidackkogjaaGreatDoor

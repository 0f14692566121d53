/- Plain facts on chains of steps: the text behind them, that each goes, and that two steps that are one do what both do. No condition: nothing here speaks of the program. -/
import Derived.Test.YtgdamapocomhkaaEdK
import Derived.Test.YtgdamapocomhkaaUnF
import Derived.Test.YtgdamapocomhkaaUnP
namespace Go.Proofs.Ytgdamapocomhkaa
open Go.RowKit
set_option linter.unusedVariables false

def stepDo (t : ByteArray) (x : St) : ByteArray := doB t x.pos.toNat x.del x.ins
def stepGoes (t : ByteArray) (x : St) : Prop := wrongN t x.pos x.del x.ins = 0
def runB (t : ByteArray) (l : List St) : ByteArray := l.foldl stepDo t
def okB : ByteArray → List St → Prop
  | _, [] => True
  | t, x :: l => stepGoes t x ∧ okB (stepDo t x) l
theorem runB_snoc (t : ByteArray) (l : List St) (x : St) : runB t (l ++ [x]) = stepDo (runB t l) x := by simp [runB]
theorem okB_snoc (t : ByteArray) (l : List St) (x : St) : okB t (l ++ [x]) ↔ okB t l ∧ stepGoes (runB t l) x := by
  induction l generalizing t with
  | nil => simp [okB, runB]
  | cons y l ih =>
    simp only [List.cons_append, okB]
    rw [ih]
    simp [runB, and_assoc]
theorem okB_take {t : ByteArray} {l : List St} (h : okB t l) (d : Nat) : okB t (l.take d) := by
  induction l generalizing t d with
  | nil => simp [okB]
  | cons y l ih =>
    cases d with
    | zero => simp [okB]
    | succ d => exact ⟨h.1, ih h.2 d⟩
theorem take_snoc {l : List St} {d : Nat} (h : d < l.length) : l.take (d + 1) = l.take d ++ [l[d]?.getD St.zero] := by
  rw [List.take_add_one, List.getElem?_eq_getElem h]
  rfl
/-- The step at hand, its text ahead and behind. -/
theorem step_at {t : ByteArray} {l : List St} {d : Nat} (h : okB t l) (hd : d < l.length) :
    stepGoes (runB t (l.take d)) (l[d]?.getD St.zero) ∧ runB t (l.take (d + 1)) = stepDo (runB t (l.take d)) (l[d]?.getD St.zero) := by
  have h1 := okB_take h (d + 1)
  rw [take_snoc hd] at h1 ⊢
  exact ⟨((okB_snoc _ _ _).1 h1).2, runB_snoc _ _ _⟩

/-- What goes, goes back. -/
theorem goes_back {t : ByteArray} {x : St} (h : stepGoes t x) (ht : t.size ≤ 1048576) : wrongN (stepDo t x) x.pos x.ins x.del = 0 ∧ doB (stepDo t x) x.pos.toNat x.ins x.del = t := by
  obtain ⟨h0, h1, h2, h3⟩ := wrongN_0 h
  obtain ⟨g1, g2⟩ := inverse_brings h2
  have hz : (doB t x.pos.toNat x.del x.ins).size = t.size - x.del.size + x.ins.size := doB_size h2.1
  have := h2.1
  refine ⟨wrongN_mk0 h0 ?_ g1 ?_, g2⟩
  · have := g1.1
    show x.pos ≤ ((stepDo t x).size : Int)
    unfold stepDo
    omega
  · show ((stepDo t x).size : Int) - x.ins.size + x.del.size ≤ 1048576
    unfold stepDo
    rw [hz]
    omega
theorem stepDo_size {t : ByteArray} {x : St} (h : stepGoes t x) : (stepDo t x).size + x.del.size = t.size + x.ins.size ∧ (stepDo t x).size ≤ 1048576 := by
  obtain ⟨h0, h1, h2, h3⟩ := wrongN_0 h
  have hz : (doB t x.pos.toNat x.del x.ins).size = t.size - x.del.size + x.ins.size := doB_size h2.1
  have := h2.1
  unfold stepDo
  rw [hz]
  omega

/-- Two steps that are one do what both do. -/
theorem join_goes {t : ByteArray} {a b e : St} (hj : joinSt a b = some e) (ha : stepGoes t a) (hb : stepGoes (stepDo t a) b) : stepGoes t e ∧ stepDo t e = stepDo (stepDo t a) b := by
  obtain ⟨a0, a1, a2, a3⟩ := wrongN_0 ha
  obtain ⟨b0, b1, b2, b3⟩ := wrongN_0 hb
  have hlast := (stepDo_size hb).2
  obtain ⟨X, ad, an, p, q⟩ := a
  obtain ⟨Y, bd, bn, p', q'⟩ := b
  simp only at a0 a1 a2 a3 b0 b1 b2 b3
  obtain ⟨A, rfl⟩ : ∃ A : Nat, X = A := ⟨X.toNat, by omega⟩
  obtain ⟨B, rfl⟩ : ∃ B : Nat, Y = B := ⟨Y.toNat, by omega⟩
  have key : ∀ {Z : Nat} {D I : ByteArray} {r1 r2 : Int}, fits t Z D ∧ doB t Z D I = doB (doB t A ad an) B bd bn → stepGoes t ⟨Z, D, I, r1, r2⟩ ∧ stepDo t ⟨Z, D, I, r1, r2⟩ = stepDo (stepDo t ⟨A, ad, an, p, q⟩) ⟨B, bd, bn, p', q'⟩ := by
    rintro Z D I r1 r2 ⟨k1, k2⟩
    have hz : (doB t Z D I).size = t.size - D.size + I.size := doB_size k1.1
    have hl : (doB t Z D I).size ≤ 1048576 := by rw [k2]; exact hlast
    have := k1.1
    refine ⟨wrongN_mk0 (by simp) (by simp; omega) (by simpa using k1) ?_, k2⟩
    show (t.size : Int) - D.size + I.size ≤ 1048576
    omega
  simp only [stepDo, Int.toNat_natCast] at a2 b2
  unfold joinSt at hj
  simp only at hj
  split at hj
  · cases hj
  · split at hj
    · cases hj
    · split at hj
      · cases hj
      · rename_i c1 c2 c3
        split at hj
        · rename_i c4
          obtain ⟨f, hf⟩ : ∃ f, ((B : Int) - A).toNat = f := ⟨_, rfl⟩
          rw [hf] at hj
          split at hj
          · rename_i c5
            cases hj
            exact key (joins_1 f (by omega) (by omega) c5 a2 b2)
          · rename_i c5
            cases hj
            exact key (joins_2 f (by omega) (by omega) (by omega) a2 b2)
        · rename_i c4
          obtain ⟨g, hg⟩ : ∃ g, ((A : Int) - B).toNat = g := ⟨_, rfl⟩
          rw [hg] at hj
          split at hj
          · rename_i c5
            cases hj
            exact key (joins_3 g (bd.size - g) (by omega) (by omega) c5 a2 b2)
          · rename_i c5
            cases hj
            exact key (joins_4 g (bd.size - g) (by omega) (by omega) (by omega) a2 b2)

/-- How long the texts of a joined step can be. -/
theorem join_small {a b e : St} (hj : joinSt a b = some e) : e.del.size ≤ a.del.size + b.del.size ∧ e.ins.size ≤ a.ins.size + b.ins.size := by
  have hx : ∀ (s : ByteArray) (i j : Nat), (s.extract i j).size ≤ s.size - i ∧ (s.extract i j).size ≤ j - i := by intro s i j; simp; omega
  unfold joinSt at hj
  split at hj
  · cases hj
  · split at hj
    · cases hj
    · split at hj
      · cases hj
      · rename_i c1 c2 c3
        split at hj
        · split at hj
          · cases hj
            have h1 := hx a.ins 0 (b.pos - a.pos).toNat
            have h2 := hx a.ins ((b.pos - a.pos).toNat + b.del.size) a.ins.size
            refine ⟨by simp, ?_⟩
            simp only [ByteArray.size_append]
            omega
          · cases hj
            have h1 := hx b.del (a.ins.size - (b.pos - a.pos).toNat) b.del.size
            have h2 := hx a.ins 0 (b.pos - a.pos).toNat
            simp only [ByteArray.size_append]
            omega
        · split at hj
          · cases hj
            have h1 := hx b.del 0 (a.pos - b.pos).toNat
            have h2 := hx a.ins (b.del.size - (a.pos - b.pos).toNat) a.ins.size
            simp only [ByteArray.size_append]
            omega
          · cases hj
            have h1 := hx b.del 0 (a.pos - b.pos).toNat
            have h2 := hx b.del (a.ins.size + (a.pos - b.pos).toNat) b.del.size
            simp only [ByteArray.size_append]
            omega

/-- A push, joined or not, keeps the chain: the steps behind it lead where the old ones and the new one lead. -/
theorem push_chain {t : ByteArray} {steps : List St} {s s' : St} {n : Nat} {join : Bool} (hok : okB t steps) (hg : stepGoes (runB t steps) s) (hj : (if join = true then joinedSt steps steps.length s else (s, steps.length)) = (s', n)) :
    okB t (steps.take n ++ [s']) ∧ runB t (steps.take n ++ [s']) = stepDo (runB t steps) s := by
  have plain : s = s' → steps.length = n → okB t (steps.take n ++ [s']) ∧ runB t (steps.take n ++ [s']) = stepDo (runB t steps) s := by
    rintro rfl rfl
    rw [List.take_length]
    exact ⟨(okB_snoc _ _ _).2 ⟨hok, hg⟩, runB_snoc _ _ _⟩
  cases join
  · obtain ⟨e1, e2⟩ : s = s' ∧ steps.length = n := by simpa using hj
    exact plain e1 e2
  · have hj' : joinedSt steps steps.length s = (s', n) := by simpa using hj
    unfold joinedSt at hj'
    split at hj'
    · rename_i h0
      obtain ⟨e1, e2⟩ : s = s' ∧ 0 = n := by simpa using hj'
      exact plain e1 (by omega)
    · rename_i d hd
      split at hj'
      · obtain ⟨e1, e2⟩ : s = s' ∧ d + 1 = n := by simpa using hj'
        exact plain e1 (by omega)
      · rename_i e he
        obtain ⟨rfl, rfl⟩ : e = s' ∧ d = n := by simpa using hj'
        have hdl : d < steps.length := by omega
        obtain ⟨k1, k2⟩ := step_at hok hdl
        have hall : steps.take (d + 1) = steps := by rw [List.take_of_length_le]; omega
        rw [hall] at k2
        rw [k2] at hg ⊢
        obtain ⟨g1, g2⟩ := join_goes he k1 hg
        exact ⟨(okB_snoc _ _ _).2 ⟨okB_take hok d, g1⟩, (runB_snoc _ _ _).trans g2⟩
/-- How long the texts of the steps behind a push can be. -/
theorem push_small {steps : List St} {s s' : St} {n m : Nat} {join : Bool} {done : Nat} (hd : done ≤ steps.length) (hs : ∀ x ∈ steps, x.del.size ≤ m ∧ x.ins.size ≤ m) (h1 : s.del.size ≤ 100) (h2 : s.ins.size ≤ 100) (hj : (if join = true then joinedSt steps done s else (s, done)) = (s', n)) :
    ∀ x ∈ steps.take n ++ [s'], x.del.size ≤ m + 100 ∧ x.ins.size ≤ m + 100 := by
  have hs' : s'.del.size ≤ m + 100 ∧ s'.ins.size ≤ m + 100 := by
    cases join
    · obtain ⟨rfl, _⟩ : s = s' ∧ done = n := by simpa using hj
      omega
    · have hj' : joinedSt steps done s = (s', n) := by simpa using hj
      unfold joinedSt at hj'
      split at hj'
      · obtain ⟨rfl, _⟩ : s = s' ∧ 0 = n := by simpa using hj'
        omega
      · rename_i d
        split at hj'
        · obtain ⟨rfl, _⟩ : s = s' ∧ d + 1 = n := by simpa using hj'
          omega
        · rename_i e he
          obtain ⟨rfl, _⟩ : e = s' ∧ d = n := by simpa using hj'
          have hdl : d < steps.length := by omega
          have hm : steps[d]?.getD St.zero ∈ steps := by
            rw [List.getElem?_eq_getElem hdl]
            exact List.getElem_mem hdl
          have := hs _ hm
          have := join_small he
          omega
  intro x hx
  rcases List.mem_append.1 hx with hx | hx
  · have := hs x (List.mem_of_mem_take hx)
    omega
  · obtain rfl := List.mem_singleton.1 hx
    exact hs'
end Go.Proofs.Ytgdamapocomhkaa

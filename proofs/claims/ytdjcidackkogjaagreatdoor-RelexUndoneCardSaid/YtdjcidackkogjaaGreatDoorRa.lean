/- Two texts with one end: the tokens there are the same, moved. No condition: nothing here speaks of the program.
Lexings as marks among a text's delimiters; paths of tokens with the marks ahead of them. No condition: nothing here speaks of the program. -/
import Derived.Test.YtdjcidackkogjaaGreatDoorTkQ
import Derived.Test.YtdjcidackkogjaaGreatDoorTkL
namespace Go.Proofs.YtdjcidackkogjaaGreatDoor
open Go.RowKit
set_option linter.unusedVariables false

theorem lead_cgr {q r : Nat → Bool} {z : Nat} (h : ∀ i, i < z → q i = r i) : lead q z = lead r z := by
  have hle := lead_le r z
  refine lead_eq q hle (fun i hi => ?_) (fun hi => ?_)
  · rw [h i (by omega)]; exact lead_all r hi
  · rw [h _ hi]; exact lead_stop r hi
structure Tl (s t : ByteArray) (a b : Nat) : Prop where
  la : a ≤ s.size
  lb : b ≤ t.size
  z : s.size - a = t.size - b
  e : ∀ i, a + i < s.size → by8 s (a + i) = by8 t (b + i)
section
variable {s t : ByteArray} {a b : Nat} (h : Tl s t a b)
include h
theorem Tl.add {j : Nat} (hj : a + j ≤ s.size) : Tl s t (a + j) (b + j) :=
  ⟨hj, by have := h.z; have := h.lb; have := h.la; omega, by have := h.z; have := h.la; have := h.lb; omega, fun i hi => by rw [Nat.add_assoc, Nat.add_assoc]; exact h.e _ (by omega)⟩
theorem Tl.lt {j : Nat} : a + j < s.size ↔ b + j < t.size := by have := h.z; have := h.lb; have := h.la; omega
theorem Tl.bt {i : Nat} (hi : a + i < s.size) : bt s (a + i) = bt t (b + i) := UInt8.toNat_inj.1 (h.e i hi)
theorem Tl.cl {i : Nat} (hi : a + i < s.size) : cl s (a + i) = cl t (b + i) := by unfold Go.Proofs.YtdjcidackkogjaaGreatDoor.cl; rw [h.bt hi]
theorem Tl.ext {i j : Nat} (hj : a + j ≤ s.size) : s.extract (a + i) (a + j) = t.extract (b + i) (b + j) := by
  have h1 := h.la
  have h2 := h.lb
  have h3 := h.z
  refine bt_ext ?_ (fun k hk => ?_)
  · rw [ByteArray.size_extract, ByteArray.size_extract]; omega
  · rw [ByteArray.size_extract] at hk
    rw [bt_extract s _ _ k (by omega) (by omega), bt_extract t _ _ k (by omega) (by omega), Nat.add_assoc, Nat.add_assoc]
    exact h.bt (by omega)
theorem Tl.all : s.extract a s.size = t.extract b t.size := by
  have h1 := h.la
  have h2 := h.lb
  have h3 := h.z
  have := h.ext (i := 0) (j := s.size - a) (by omega)
  rw [show a + 0 = a from rfl, show b + 0 = b from rfl, show a + (s.size - a) = s.size by omega, show b + (s.size - a) = t.size by omega] at this
  exact this
theorem row_tl {c : Nat} : rowN s a c = rowN t b c := by
  unfold rowN
  rw [h.z]
  refine lead_cgr fun i hi => ?_
  rw [h.cl (by have := h.z; omega)]
theorem bstep_tl : bstep s a = bstep t b := by
  unfold bstep
  rw [row_tl h]
  by_cases g : a + 1 < s.size
  · have g2 := h.lt.1 g
    have e0 := h.e 0 (by omega)
    rw [Nat.add_zero, Nat.add_zero] at e0
    rw [e0, h.e 1 g]
    simp only [g, g2, true_and]
  · have g2 : ¬ b + 1 < t.size := fun e => g (h.lt.2 e)
    simp only [g, g2, false_and]
theorem nlE_tl : nlE s a + b = nlE t b + a := by
  unfold nlE
  rw [h.z, lead_cgr (r := fun i => decide (by8 t (b + i) ≠ 10)) (fun i hi => by rw [h.e i (by have := h.z; omega)])]
  omega
theorem numN_tl : numN s a = numN t b := by
  unfold numN
  rw [row_tl h]
  by_cases g : a + rowN t b 6 < s.size
  · have g2 := h.lt.1 g
    rw [h.e _ g]
    simp only [g, g2, true_and]
  · have g2 : ¬ b + rowN t b 6 < t.size := fun e => g (h.lt.2 e)
    simp only [g, g2, false_and]
theorem wdE_tl : wdE s a + b = wdE t b + a := by
  unfold wdE
  rw [h.z, lead_cgr (r := fun i => !stops (fromK t b 0 i) (by8 t (b + i))) (fun i hi => by
    have e : fromK s a 0 i = fromK t b 0 i := runG_congr (fun j hj => h.e _ (by have := h.z; omega))
    rw [e, h.e i (by have := h.z; omega)])]
  omega
theorem opN_tl : opN s a = opN t b := by
  have : (fun k => decide (fits s a (txt k))) = fun k => decide (fits t b (txt k)) := funext fun k => decide_eq_decide.2 (by
    unfold fits
    have h1 := h.la
    have h2 := h.lb
    have h3 := h.z
    constructor
    · rintro ⟨g1, g2⟩
      have := h.ext (i := 0) (j := (txt k).size) g1
      rw [Nat.add_zero, Nat.add_zero] at this
      exact ⟨by omega, by rw [← this]; exact g2⟩
    · rintro ⟨g1, g2⟩
      have := h.ext (i := 0) (j := (txt k).size) (by omega)
      rw [Nat.add_zero, Nat.add_zero] at this
      exact ⟨by omega, by rw [this]; exact g2⟩)
  unfold opN
  rw [this]
end
theorem blE_tl {s t : ByteArray} : ∀ (k a b : Nat), Tl s t a b → s.size - a ≤ k → blE s a + b = blE t b + a
  | k, a, b, h, hk => by
    have h1 := h.la
    have h2 := h.lb
    by_cases g : bstep s a = 0
    · rw [blE_zero g, blE_zero ((bstep_tl h).symm.trans g)]
      omega
    · have hs := bstep_tl h
      have hgt := blE_gt h1 g
      have hle := blE_le h1
      have e1 := blE_next h1 g
      have e2 := blE_next h2 (by rw [← hs]; exact g)
      have hb : a + bstep s a ≤ s.size := by
        rcases Nat.lt_or_ge s.size (a + bstep s a) with q | q
        · exfalso
          rw [e1] at hle
          have z0 : bstep s (a + bstep s a) = 0 := by
            unfold bstep
            have hr : ∀ c, rowN s (a + (if 0 < rowN s a 1 then rowN s a 1 else if a + 1 < s.size ∧ by8 s a = 92 ∧ by8 s (a + 1) = 10 then 2 else 0)) c = 0 := fun c => by
              have := rowN_le s (a + (if 0 < rowN s a 1 then rowN s a 1 else if a + 1 < s.size ∧ by8 s a = 92 ∧ by8 s (a + 1) = 10 then 2 else 0)) c
              unfold bstep at q
              omega
            rw [hr]
            unfold bstep at q
            rw [if_neg (by omega), if_neg (by omega)]
          rw [blE_zero z0] at hle
          omega
        · exact q
      match k, hk with
      | 0, hk => omega
      | k + 1, hk =>
        have := blE_tl k (a + bstep s a) (b + bstep s a) (h.add hb) (by omega)
        rw [e1, e2, ← hs]
        omega
def Tk.mv (q : Tk) (a b : Nat) : Tk := ⟨q.kind, q.frm + b - a, q.en + b - a, q.op⟩
section
variable {s t : ByteArray} {a b : Nat} (h : Tl s t a b)
include h
theorem me_tl (ha : a < s.size) : meK s a = meK t b ∧ meE s a + b = meE t b + a := by
  have hb := bstep_tl h
  have hop := opN_tl h
  have hn := numN_tl h
  have e0 := h.e 0 (by omega)
  rw [Nat.add_zero, Nat.add_zero] at e0
  unfold meK meE
  rw [hb, hop, hn, e0]
  refine ⟨rfl, ?_⟩
  split
  · exact blE_tl _ _ _ h (Nat.le_refl _)
  · split
    · omega
    · split
      · exact nlE_tl h
      · split
        · omega
        · split
          · omega
          · exact wdE_tl h
theorem tkN_tl (x : Lx) (ha : a < s.size) : tkN t b x = (tkN s a x).mv a b ∧ nxN t b x = nxN s a x := by
  have h1 := h.la
  have h2 := h.lb
  have hok := tkN_ok x ha
  have hbt : b < t.size := by have := (h.lt (j := 0)).1 (by omega); omega
  have hok2 := tkN_ok x hbt
  have hk : tkN t b x = (tkN s a x).mv a b := by
    unfold tkN Tk.mv at *
    by_cases hx : x.body = true
    · simp only [if_pos hx, h.all] at *
      congr 1 <;> omega
    · simp only [if_neg hx] at *
      obtain ⟨e1, e2⟩ := me_tl h ha
      have e3 := h.ext (i := 0) (j := meE s a - a) (by omega)
      rw [Nat.add_zero, Nat.add_zero, show a + (meE s a - a) = meE s a by omega, show b + (meE s a - a) = meE t b by omega] at e3
      rw [e1, e3]
      congr 1 <;> omega
  refine ⟨hk, ?_⟩
  have e3 := h.ext (i := 0) (j := (tkN s a x).en - a) (by omega)
  have hf : (tkN t b x).frm = b := hok2.1
  have he : (tkN t b x).en = b + ((tkN s a x).en - a) := by
    rw [hk]
    show (tkN s a x).en + b - a = _
    omega
  unfold nxN
  rw [hf, he, hok.1]
  rw [Nat.add_zero, Nat.add_zero, show a + ((tkN s a x).en - a) = (tkN s a x).en by omega] at e3
  rw [e3, hk]
  rfl
end
end Go.Proofs.YtdjcidackkogjaaGreatDoor
namespace Go.Proofs.YtdjcidackkogjaaGreatDoor
open Go.RowKit
set_option linter.unusedVariables false
set_option linter.unusedSectionVars false

structure Mk where
  await : Nat
  body : Bool
  frm : Nat
  en : Nat
def Mk.zero : Mk := ⟨0, false, 0, 0⟩
def mkL (m : Mk) (D : List Dl) : Lx := ⟨m.await, (D.take m.en).drop m.frm, m.body⟩
theorem mkL_zero (D : List Dl) : mkL Mk.zero D = Lx.zero := by
  unfold mkL Mk.zero Lx.zero
  rw [List.take_zero]
  rfl
def popN (s : ByteArray) (a : Nat) (x : Lx) : Nat := if (tkN s a x).kind = 7 ∧ (tkN s a x).op = false then 1 else 0
def pushN (s : ByteArray) (a : Nat) (x : Lx) : Nat := if (tkN s a x).kind = 6 ∧ x.await ≠ 0 then 1 else 0
structure Stp (s : ByteArray) (D : List Dl) (a : Nat) (m n : Mk) : Prop where
  le : n.frm ≤ n.en
  en : n.en ≤ D.length
  f : n.frm = m.frm + popN s a (mkL m D)
  e : n.en = m.en + pushN s a (mkL m D)
  l : mkL n D = nxN s a (mkL m D)
def Pth (s : ByteArray) (D : List Dl) : Nat → Mk → List (Tk × Mk) → Nat → Mk → Prop
  | a, m, [], b, n => a = b ∧ m = n
  | a, m, q :: I, b, n => a < s.size ∧ q.2 = m ∧ q.1 = tkN s a (mkL m D) ∧ ∃ k, Stp s D a m k ∧ Pth s D q.1.en k I b n
theorem Pth.app {s : ByteArray} {D : List Dl} : ∀ {I J : List (Tk × Mk)} {a b c : Nat} {m n k : Mk}, Pth s D a m I b n → Pth s D b n J c k → Pth s D a m (I ++ J) c k
  | [], J, a, b, c, m, n, k, h1, h2 => by
    obtain ⟨rfl, rfl⟩ := h1
    exact h2
  | q :: I, J, a, b, c, m, n, k, ⟨g1, g2, g3, u, g4, g5⟩, h2 => ⟨g1, g2, g3, u, g4, Pth.app g5 h2⟩
theorem Pth.split {s : ByteArray} {D : List Dl} : ∀ {I J : List (Tk × Mk)} {a c : Nat} {m k : Mk}, Pth s D a m (I ++ J) c k → ∃ b n, Pth s D a m I b n ∧ Pth s D b n J c k
  | [], J, a, c, m, k, h => ⟨a, m, ⟨rfl, rfl⟩, h⟩
  | q :: I, J, a, c, m, k, ⟨g1, g2, g3, u, g4, g5⟩ => by
    obtain ⟨b, n, h1, h2⟩ := Pth.split g5
    exact ⟨b, n, ⟨g1, g2, g3, u, g4, h1⟩, h2⟩
theorem Pth.one {s : ByteArray} {D : List Dl} {a : Nat} {m n : Mk} (h : a < s.size) (hs : Stp s D a m n) : Pth s D a m [(tkN s a (mkL m D), m)] (tkN s a (mkL m D)).en n :=
  ⟨h, rfl, rfl, n, hs, rfl, rfl⟩
theorem Pth.le {s : ByteArray} {D : List Dl} : ∀ {I : List (Tk × Mk)} {a b : Nat} {m n : Mk}, Pth s D a m I b n → m.frm ≤ n.frm ∧ m.en ≤ n.en ∧ a + I.length ≤ b ∧ (a ≤ s.size → b ≤ s.size) ∧ (m.frm ≤ m.en → m.en ≤ D.length → n.frm ≤ n.en ∧ n.en ≤ D.length)
  | [], a, b, m, n, h => by
    obtain ⟨rfl, rfl⟩ := h
    exact ⟨Nat.le_refl _, Nat.le_refl _, Nat.le_refl _, id, fun h1 h2 => ⟨h1, h2⟩⟩
  | q :: I, a, b, m, n, ⟨g1, g2, g3, u, g4, g5⟩ => by
    obtain ⟨h1, h2, h3, h4, h5⟩ := Pth.le g5
    have hok := tkN_ok (mkL m D) g1
    rw [← g3] at hok
    have e1 := g4.f
    have e2 := g4.e
    have := h4 hok.2.2
    rw [List.length_cons]
    exact ⟨by omega, by omega, by omega, fun _ => this, fun _ _ => h5 g4.le g4.en⟩
theorem Pth.sum {s : ByteArray} {D : List Dl} : ∀ {I : List (Tk × Mk)} {a b : Nat} {m n : Mk}, Pth s D a m I b n → ∀ (i : Nat) q, I[i]? = some q → a ≤ q.1.frm ∧ q.1.frm < q.1.en ∧ q.1.en ≤ b ∧ m.frm ≤ q.2.frm ∧ m.en ≤ q.2.en ∧ q.2.frm ≤ n.frm ∧ q.2.en ≤ n.en
  | [], a, b, m, n, h, i, q, hi => by cases hi
  | q0 :: I, a, b, m, n, ⟨g1, g2, g3, u, g4, g5⟩, i, q, hi => by
    have hok := tkN_ok (mkL m D) g1
    rw [← g3] at hok
    have e1 := g4.f
    have e2 := g4.e
    have hl := Pth.le g5
    match i, hi with
    | 0, hi =>
      have hi' : q0 = q := by simpa using hi
      subst hi'
      rw [g2]
      omega
    | i + 1, hi =>
      have := Pth.sum g5 i q (by simpa using hi)
      omega
theorem mkL_take {D F : List Dl} {m : Mk} (h : F.take m.en = D.take m.en) : mkL m F = mkL m D := by unfold mkL; rw [h]
theorem take_less {α : Type} {D F : List α} {i j : Nat} (h : F.take j = D.take j) (hij : i ≤ j) : F.take i = D.take i := by
  have := congrArg (List.take i) h
  rwa [List.take_take, List.take_take, Nat.min_eq_left hij] at this
theorem Stp.take {s : ByteArray} {D F : List Dl} {a : Nat} {m n : Mk} (h : Stp s D a m n) (hF : F.take n.en = D.take n.en) (hl : n.en ≤ F.length) : Stp s F a m n := by
  have e : mkL m F = mkL m D := mkL_take (take_less hF (by rw [h.e]; exact Nat.le_add_right _ _))
  exact ⟨h.le, hl, by rw [e]; exact h.f, by rw [e]; exact h.e, by rw [e, mkL_take hF]; exact h.l⟩
theorem Pth.take {s : ByteArray} {D F : List Dl} : ∀ {I : List (Tk × Mk)} {a b : Nat} {m n : Mk}, Pth s D a m I b n → F.take n.en = D.take n.en → n.en ≤ F.length → Pth s F a m I b n
  | [], a, b, m, n, h, _, _ => h
  | q :: I, a, b, m, n, ⟨g1, g2, g3, u, g4, g5⟩, hF, hl => by
    have hle := Pth.le g5
    have h2 := take_less hF hle.2.1
    have e : mkL m F = mkL m D := mkL_take (take_less h2 (by rw [g4.e]; exact Nat.le_add_right _ _))
    exact ⟨g1, g2, by rw [e]; exact g3, u, g4.take h2 (Nat.le_trans hle.2.1 hl), Pth.take g5 hF hl⟩
theorem Pth.tks {s : ByteArray} {D : List Dl} : ∀ {I : List (Tk × Mk)} {a b : Nat} {m n : Mk}, Pth s D a m I b n → ∃ L, tksF s (s.size - a) a (mkL m D) = L ++ tksF s (s.size - b) b (mkL n D) ∧ L.map Prod.fst = I.map Prod.fst ∧ (∀ y, (L.getLast?.map Prod.snd).getD y = if I = [] then y else mkL n D) ∧ (∀ (i : Nat) q, I[i + 1]? = some q → ∃ r, L[i]? = some r ∧ r.2 = mkL q.2 D)
  | [], a, b, m, n, h => by
    obtain ⟨rfl, rfl⟩ := h
    exact ⟨[], rfl, rfl, fun y => by simp, fun i q hi => by cases hi⟩
  | q0 :: I, a, b, m, n, ⟨g1, g2, g3, u, g4, g5⟩ => by
    obtain ⟨L, h1, h2, h3, h4⟩ := Pth.tks g5
    refine ⟨(tkN s a (mkL m D), nxN s a (mkL m D)) :: L, ?_, ?_, fun y => ?_, fun i q hi => ?_⟩
    · rw [tksF_next _ g1, ← g4.l, ← g3, h1]
      rfl
    · rw [List.map_cons, List.map_cons, h2, g3]
    · rw [if_neg (by simp)]
      have := h3 (mkL u D)
      rw [List.getLast?_cons]
      by_cases hI : I = []
      · subst hI
        have hL : L = [] := List.map_eq_nil_iff.1 h2
        subst hL
        obtain ⟨_, rfl⟩ := g5
        simp [g4.l]
      · rw [if_neg hI] at this
        rw [← this]
        cases hl : L.getLast? with
        | none =>
          exfalso
          have hL : L = [] := List.getLast?_eq_none_iff.1 hl
          rw [hL] at h2
          exact hI (List.map_eq_nil_iff.1 h2.symm)
        | some z => rfl
    · match i with
      | 0 =>
        refine ⟨_, rfl, ?_⟩
        show nxN s a (mkL m D) = _
        have hi' : I[0]? = some q := by simpa using hi
        match I, g5, hi' with
        | q1 :: I', ⟨k1, k2, k3, k4⟩, hi' =>
          have : q1 = q := by simpa using hi'
          subst this
          rw [k2, g4.l]
      | i + 1 =>
        obtain ⟨r, hr1, hr2⟩ := h4 i q (by simpa using hi)
        exact ⟨r, by simpa using hr1, hr2⟩
theorem Pth.whole {s : ByteArray} {D : List Dl} {I : List (Tk × Mk)} {n : Mk} (h : Pth s D 0 Mk.zero I s.size n) : (TKs s).map Prod.fst = I.map Prod.fst ∧ lstX (TKs s) = mkL n D := by
  obtain ⟨L, h1, h2, h3, _⟩ := h.tks
  rw [mkL_zero, tksF_end _ (Nat.lt_irrefl _), List.append_nil] at h1
  have e : TKs s = L := h1
  rw [e]
  refine ⟨h2, ?_⟩
  have h4 := h3 Lx.zero
  unfold lstX
  by_cases hI : I = []
  · subst hI
    have hL : L = [] := List.map_eq_nil_iff.1 h2
    subst hL
    obtain ⟨_, rfl⟩ := h
    exact (mkL_zero D).symm
  · rw [if_neg hI] at h4
    rw [← h4]
    cases L.getLast? <;> rfl
theorem Pth.beg {s t : ByteArray} {D : List Dl} {z : Nat} (hb : Beg s t z) : ∀ {I : List (Tk × Mk)} {a b : Nat} {m n : Mk}, Pth s D a m I b n → (∀ q ∈ I, q.1.en + 2 ≤ z) → Pth t D a m I b n
  | [], a, b, m, n, h, _ => h
  | q :: I, a, b, m, n, ⟨g1, g2, g3, u, g4, g5⟩, hz => by
    have hq := hz q (List.mem_cons_self)
    have hq' := hq
    rw [g3] at hq'
    obtain ⟨e1, e2⟩ := tkN_beg hb (mkL m D) g1 hq'
    have hok := tkN_ok (mkL m D) g1
    rw [← g3] at hok
    have hlt : a < t.size := by have := hb.b; omega
    refine ⟨hlt, g2, by rw [e1]; exact g3, u, ⟨g4.le, g4.en, ?_, ?_, by rw [e2]; exact g4.l⟩, Pth.beg hb g5 fun q hq => hz q (List.mem_cons_of_mem _ hq)⟩
    · unfold popN; rw [e1]; exact g4.f
    · unfold pushN; rw [e1]; exact g4.e
def Mk.mv (m : Mk) (p q : Nat) : Mk := ⟨m.await, m.body, m.frm + p - q, m.en + p - q⟩
theorem mkL_mv {D F : List Dl} {m : Mk} {f p q : Nat} (hq : q ≤ f + p) (hf : f ≤ m.frm) (hm : m.frm ≤ m.en) (h : F.drop (f + p - q) = D.drop f) : mkL (m.mv p q) F = mkL m D := by
  unfold mkL Mk.mv
  congr 1
  show (F.take (m.en + p - q)).drop (m.frm + p - q) = (D.take m.en).drop m.frm
  have e1 : (F.take (m.en + p - q)).drop (m.frm + p - q) = (F.drop (m.frm + p - q)).take (m.en - m.frm) := by
    rw [List.drop_take]
    congr 1
    omega
  have e2 : (D.take m.en).drop m.frm = (D.drop m.frm).take (m.en - m.frm) := List.drop_take
  rw [e1, e2]
  congr 1
  have h2 := congrArg (List.drop (m.frm - f)) h
  rw [List.drop_drop, List.drop_drop] at h2
  rw [show f + p - q + (m.frm - f) = m.frm + p - q by omega, show f + (m.frm - f) = m.frm by omega] at h2
  exact h2
theorem Pth.mv {s t : ByteArray} {D F : List Dl} {f p q : Nat} (hq : q ≤ f + p) (hF : F.drop (f + p - q) = D.drop f) (hl : D.length + p ≤ F.length + q) : ∀ {I : List (Tk × Mk)} {a b c : Nat} {m n : Mk}, Pth s D a m I c n → Tl s t a b → f ≤ m.frm → m.frm ≤ m.en → Pth t F b (m.mv p q) (I.map fun r => (r.1.mv a b, r.2.mv p q)) (c + b - a) (n.mv p q)
  | [], a, b, c, m, n, h, _, _, _ => by
    obtain ⟨rfl, rfl⟩ := h
    exact ⟨by omega, rfl⟩
  | r :: I, a, b, c, m, n, ⟨g1, g2, g3, u, g4, g5⟩, ht, hf, hm => by
    have e := mkL_mv (F := F) (D := D) hq hf hm hF
    obtain ⟨e1, e2⟩ := tkN_tl ht (mkL m D) g1
    have hok := tkN_ok (mkL m D) g1
    rw [← g3] at hok
    have hbt : b < t.size := by have := (ht.lt (j := 0)).1 (by omega); omega
    have h1 := g4.f
    have h2 := g4.e
    have h3 := g4.le
    have h4 := g4.en
    have eu := mkL_mv (F := F) (D := D) (m := u) hq (by omega) h3 hF
    have hadd := ht.add (j := r.1.en - a) (by omega)
    rw [show a + (r.1.en - a) = r.1.en by omega] at hadd
    have hen : (r.1.mv a b).en = b + (r.1.en - a) := by
      show r.1.en + b - a = _
      omega
    have hmv : ∀ z, z + (b + (r.1.en - a)) - r.1.en = z + b - a := fun z => by omega
    have ih := Pth.mv hq hF hl g5 hadd (by omega) h3
    have eI : (I.map fun r' => (r'.1.mv r.1.en (b + (r.1.en - a)), r'.2.mv p q)) = I.map fun r' => (r'.1.mv a b, r'.2.mv p q) := by
      refine List.map_congr_left fun r' _ => ?_
      unfold Tk.mv
      rw [hmv, hmv]
    rw [eI, hmv] at ih
    have hp : popN t b (mkL m D) = popN s a (mkL m D) := by unfold popN; rw [e1]; rfl
    have hps : pushN t b (mkL m D) = pushN s a (mkL m D) := by unfold pushN; rw [e1]; rfl
    refine ⟨hbt, by show r.2.mv p q = _; rw [g2], ?_, u.mv p q, ⟨?_, ?_, ?_, ?_, ?_⟩, ?_⟩
    · show r.1.mv a b = _
      rw [e, e1, g3]
    · show u.frm + p - q ≤ u.en + p - q
      omega
    · show u.en + p - q ≤ F.length
      omega
    · rw [e, hp]
      show u.frm + p - q = m.frm + p - q + _
      omega
    · rw [e, hps]
      show u.en + p - q = m.en + p - q + _
      omega
    · rw [e, eu, e2]
      exact g4.l
    · show Pth t F (r.1.mv a b).en _ _ _ _
      rw [hen]
      exact ih
theorem nx_counts {s : ByteArray} {a : Nat} {x : Lx} (hb : x.body = true → x.pend ≠ []) : (nxN s a x).pend.length + popN s a x = x.pend.length + pushN s a x ∧ popN s a x + pushN s a x ≤ 1 ∧ (popN s a x = 1 → (nxN s a x).pend = x.pend.tail ∧ x.pend ≠ []) ∧ (popN s a x = 0 → ∃ l, (nxN s a x).pend = x.pend ++ l ∧ l.length = pushN s a x) := by
  have h7 : (tkN s a x).kind = 7 → x.body = true := by
    intro h
    cases hx : x.body with
    | true => rfl
    | false =>
      exfalso
      unfold tkN at h
      rw [if_neg (by rw [hx]; simp)] at h
      have := meK_le s a
      have h' : meK s a = 7 := h
      omega
  unfold nxN popN pushN lxN
  generalize (tkN s a x).kind = k at h7 ⊢
  generalize (tkN s a x).op = o
  generalize s.extract (tkN s a x).frm (tkN s a x).en = tx
  by_cases k7 : k = 7
  · have hp := hb (h7 k7)
    rw [if_pos k7]
    subst k7
    cases o with
    | true => simp
    | false =>
      have hl : 0 < x.pend.length := by
        cases hx : x.pend with
        | nil => exact absurd hx hp
        | cons d l => simp
      simp [hp]
      omega
  · rw [if_neg k7]
    simp only [k7, false_and, if_false]
    by_cases k1 : k = 1
    · subst k1; simp
    rw [if_neg k1]
    by_cases k2 : k = 2
    · subst k2; simp
    rw [if_neg k2]
    by_cases k4 : k = 4
    · subst k4; simp
    rw [if_neg k4]
    by_cases k6 : k = 6 ∧ x.await ≠ 0
    · rw [if_pos k6, if_pos k6]; simp
    · rw [if_neg k6, if_neg k6]; simp
theorem tk_two {s : ByteArray} {a : Nat} {x : Lx} : tkN s a ⟨x.await, x.pend.take 2, x.body⟩ = tkN s a x := by
  have hd : ∀ t : ByteArray, docN t (x.pend.take 2) = docN t x.pend := fun t => by
    cases x.pend with
    | nil => rfl
    | cons d l => rfl
  unfold tkN
  simp only [hd]
theorem nx_two {s : ByteArray} {a : Nat} {x : Lx} (hb : x.body = true → x.pend ≠ []) : (nxN s a ⟨x.await, x.pend.take 2, x.body⟩).await = (nxN s a x).await ∧ (nxN s a ⟨x.await, x.pend.take 2, x.body⟩).body = (nxN s a x).body ∧ popN s a ⟨x.await, x.pend.take 2, x.body⟩ = popN s a x ∧ pushN s a ⟨x.await, x.pend.take 2, x.body⟩ = pushN s a x ∧
    (pushN s a x = 1 → ∃ d, (nxN s a x).pend = x.pend ++ [d] ∧ (nxN s a ⟨x.await, x.pend.take 2, x.body⟩).pend = x.pend.take 2 ++ [d]) := by
  unfold popN pushN nxN
  rw [tk_two]
  generalize (tkN s a x).kind = k
  generalize (tkN s a x).op = o
  generalize s.extract (tkN s a x).frm (tkN s a x).en = tx
  have h1 : (x.pend.take 2).isEmpty = x.pend.isEmpty := by cases x.pend <;> rfl
  have h2 : (x.pend.take 2).tail.isEmpty = x.pend.tail.isEmpty := by
    match x.pend with
    | [] => rfl
    | [d] => rfl
    | d :: e :: l => rfl
  unfold lxN
  by_cases k7 : k = 7
  · subst k7
    simp only [if_true]
    cases o <;> simp [h2]
  · simp only [if_neg k7]
    by_cases k1 : k = 1
    · subst k1; simp
    simp only [if_neg k1]
    by_cases k2 : k = 2
    · subst k2; simp [h1]
    simp only [if_neg k2]
    by_cases k4 : k = 4
    · subst k4; simp
    simp only [if_neg k4]
    by_cases k6 : k = 6 ∧ x.await ≠ 0
    · simp only [if_pos k6]
      exact ⟨by simp, by simp, by simp, by simp, fun _ => ⟨_, rfl, rfl⟩⟩
    · simp [k6]
end Go.Proofs.YtdjcidackkogjaaGreatDoor

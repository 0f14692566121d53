/- Marks and items of layer 10 (relex) in memory; what lexing and moved of a mark return. Condition: rows of at most a million delimiters.
A Doc of layer 10 (relex) in memory; what mark, told, Text, Lexing, Ahead and Tokens of it return. Condition: texts of at most 900 bytes.
What Text, Lexing, Ahead, Tokens and Leaves of a Doc of layer 10 (relex) return. Condition: texts of at most 900 bytes. -/
import Derived.Test.YtdjcidackkogjaaGreatDoorRa
import Derived.Test.YtdjcidackkogjaaGreatDoorQn
import Derived.Test.YtdjcidackkogjaaGreatDoorTkK
import Derived.Test.YtdjcidackkogjaaGreatDoorTkT
import Derived.Test.YtdjcidackkogjaaGreatDoorQr
import Derived.Test.YtdjcidackkogjaaGreatDoorPtK
import Derived.Deep.RegionHeldLaw
import Derived.Laws.MakeOwn
namespace Go.Proofs.YtdjcidackkogjaaGreatDoor
open Go.RowKit
set_option linter.unusedVariables false
set_option linter.unusedSectionVars false

def aggM (m : Mk) : Value := .agg #[.int .i64 (m.await : Int), .bool m.body, .int .i64 (m.frm : Int), .int .i64 (m.en : Int)]
def cellI (q : Tk × Mk) : List Value := [.int .i64 (q.1.kind : Int), .int .i64 (q.1.frm : Int), .int .i64 (q.1.en : Int), .bool q.1.op, .int .i64 (q.2.await : Int), .bool q.2.body, .int .i64 (q.2.frm : Int), .int .i64 (q.2.en : Int)]
def cellsI (l : List (Tk × Mk)) : List Value := l.flatMap cellI
theorem cellsI_append (l k : List (Tk × Mk)) : cellsI (l ++ k) = cellsI l ++ cellsI k := by unfold cellsI; rw [List.flatMap_append]
theorem cellI_one (x : Tk × Mk) : ∀ u ∈ cellI x, u.oneCell' = true := by
  intro u hu
  simp [cellI] at hu
  rcases hu with rfl | rfl | rfl | rfl | rfl | rfl | rfl | rfl <;> rfl
theorem cellsI_one (l : List (Tk × Mk)) : ∀ v ∈ cellsI l, v.oneCell' = true := by
  intro v hv
  obtain ⟨q, _, hq⟩ := List.mem_flatMap.1 hv
  exact cellI_one q v hq
theorem cellsI_length (l : List (Tk × Mk)) : (cellsI l).length = l.length * 8 := by
  induction l with
  | nil => rfl
  | cons a l ih =>
    have e : cellsI (a :: l) = cellI a ++ cellsI l := by unfold cellsI; rw [List.flatMap_cons]
    rw [e, List.length_append, ih, List.length_cons]
    show 8 + l.length * 8 = _
    omega
theorem cellsI_get : ∀ (l : List (Tk × Mk)) (j k : Nat) (t : Tk × Mk), l[j]? = some t → k < 8 → (cellsI l)[j * 8 + k]? = (cellI t)[k]?
  | [], j, k, t, h, _ => by cases h
  | a :: l, 0, k, t, h, hk => by
    cases h
    show (cellI a ++ cellsI l)[0 * 8 + k]? = _
    rw [List.getElem?_append_left (by show 0 * 8 + k < 8; omega), Nat.zero_mul, Nat.zero_add]
  | a :: l, j + 1, k, t, h, hk => by
    show (cellI a ++ cellsI l)[(j + 1) * 8 + k]? = _
    rw [List.getElem?_append_right (by show 8 ≤ _; omega), show (j + 1) * 8 + k - (cellI a).length = j * 8 + k from by show (j + 1) * 8 + k - 8 = _; omega]
    exact cellsI_get l j k t h hk
structure It1 (W : World) (b o : Nat) (q : Tk × Mk) : Prop where
  c0 : W.cell? ⟨b, o, none⟩ = some (.int .i64 (q.1.kind : Int))
  c1 : W.cell? ⟨b, o + 1, none⟩ = some (.int .i64 (q.1.frm : Int))
  c2 : W.cell? ⟨b, o + 2, none⟩ = some (.int .i64 (q.1.en : Int))
  c3 : W.cell? ⟨b, o + 3, none⟩ = some (.bool q.1.op)
  c4 : W.cell? ⟨b, o + 4, none⟩ = some (.int .i64 (q.2.await : Int))
  c5 : W.cell? ⟨b, o + 5, none⟩ = some (.bool q.2.body)
  c6 : W.cell? ⟨b, o + 6, none⟩ = some (.int .i64 (q.2.frm : Int))
  c7 : W.cell? ⟨b, o + 7, none⟩ = some (.int .i64 (q.2.en : Int))
theorem It1.of {W W' : World} {b o : Nat} {q : Tk × Mk} (h : It1 W b o q) (e : ∀ k, W'.cell? ⟨b, k, none⟩ = W.cell? ⟨b, k, none⟩) : It1 W' b o q :=
  ⟨(e _).trans h.c0, (e _).trans h.c1, (e _).trans h.c2, (e _).trans h.c3, (e _).trans h.c4, (e _).trans h.c5, (e _).trans h.c6, (e _).trans h.c7⟩
structure RdI (W : World) (oa : Option Addr) (n : Nat) (l : List (Tk × Mk)) : Prop where
  len : n = l.length
  cells : ∀ (j : Nat) q, l[j]? = some q → ∃ b off, oa = some ⟨b, off, none⟩ ∧ b < W.heap.size ∧ It1 W b (off + j * 8) q
theorem RdI.frm {p : Nat → Prop} {W W' : World} {oa : Option Addr} {n : Nat} {l : List (Tk × Mk)} (h : RdI W oa n l) (hf : Frm p W W') (hp : ∀ g off, oa = some ⟨g, off, none⟩ → ¬ p g) : RdI W' oa n l :=
  ⟨h.len, fun j d hj => by
    obtain ⟨b, off, h1, h2, h3⟩ := h.cells j d hj
    exact ⟨b, off, h1, Nat.lt_of_lt_of_le h2 hf.size, h3.of fun k => hf.cell (a := ⟨b, k, none⟩) h2 (hp b off h1)⟩⟩
theorem RdI.below {W W' : World} {oa : Option Addr} {n : Nat} {l : List (Tk × Mk)} (h : RdI W oa n l) (hb : Below W.heap.size W W') : RdI W' oa n l := h.frm (Frm.of_below (p := fun _ => False) hb) (fun _ _ _ h => h)
theorem RdI.of_src {W : World} {oa : Option Addr} {n c : Nat} {l : List (Tk × Mk)} (hn : n = l.length) (h : Src W (.slice oa n c) n (cellsI l)) : RdI W oa n l := by
  refine ⟨hn, fun j t hj => ?_⟩
  rcases h with ⟨h1, h2, h3⟩ | ⟨b, off, c', h1, h2, h3⟩
  · rw [hn] at h2
    have := List.eq_nil_of_length_eq_zero h2
    subst this
    cases hj
  · have g := fun k hk => cellsI_get l j k t hj hk
    cases h1
    have g' : ∀ k u, k < 8 → (cellI t)[k]? = some u → W.cell? ⟨b, off + j * 8 + k, none⟩ = some u := fun k u hk hu => by
      have := h3 (j * 8 + k) u ((g k hk).trans hu)
      rwa [← Nat.add_assoc] at this
    exact ⟨b, off, rfl, h2, ⟨g' 0 _ (by omega) rfl, g' 1 _ (by omega) rfl, g' 2 _ (by omega) rfl, g' 3 _ (by omega) rfl, g' 4 _ (by omega) rfl, g' 5 _ (by omega) rfl, g' 6 _ (by omega) rfl, g' 7 _ (by omega) rfl⟩⟩
section
variable (w : World)
set_option maxHeartbeats 2000000 in
theorem moved_any (m : Mk) (p q : Nat) (hp : p ≤ 1000000) (hq : q ≤ m.frm + p) (hm : m.frm ≤ m.en) (he : m.en ≤ 1000000) :
    Calls Tryz.prog 51 #[aggM m, .int .i64 ((p : Int) - (q : Int))] w fun e w' => e = .returned (aggM (m.mv p q)) ∧ Below w.heap.size w w' := by
  obtain ⟨A, bd, f, e⟩ := m
  dsimp only at hq hm he
  unfold aggM Mk.mv
  dsimp only
  have r1 : IntKind.i64.wrap ((f : Int) + ((p : Int) - (q : Int))) = ((f + p - q : Nat) : Int) := by rw [IntWalk.i64_in _ (by omega)]; omega
  have r2 : IntKind.i64.wrap ((e : Int) + ((p : Int) - (q : Int))) = ((e + p - q : Nat) : Int) := by rw [IntWalk.i64_in _ (by omega)]; omega
  obtain ⟨P, hP⟩ : ∃ P : Int, (p : Int) - (q : Int) = P := ⟨_, rfl⟩
  rw [hP] at r1 r2 ⊢
  obtain ⟨F, hF⟩ : ∃ F, f + p - q = F := ⟨_, rfl⟩
  obtain ⟨E, hE⟩ : ∃ E, e + p - q = E := ⟨_, rfl⟩
  rw [hF] at r1 ⊢
  rw [hE] at r2 ⊢
  clear hP hF hE hq hm he hp
  have hB := below_a2' w (.cells #[.int .i64 (A : Int), .bool bd, .int .i64 (F : Int), .int .i64 (E : Int)] 66) (.cells #[.int .i64 (A : Int), .bool bd, .int .i64 (F : Int), .int .i64 (E : Int)] 66)
  go_enter Tryz.func51, Tryz.ntmps51
  go_wp2
  have k2 := blk_a2 w (.cells #[.int .i64 (A : Int), .bool bd, .int .i64 (F : Int), .int .i64 (E : Int)] 66) #[.int .i64 (A : Int), .bool bd, .int .i64 (F : Int), .int .i64 (E : Int)] 66
  have h0 := k2.cell 0
  have h1 := k2.cell 1
  have h2 := k2.cell 2
  have h3 := k2.cell 3
  refine bodyPost_ret (v := .agg #[.int .i64 (A : Int), .bool bd, .int .i64 (F : Int), .int .i64 (E : Int)]) (by simp [results, Tryz.results51, go_sem, h0, h1, h2, h3]) rfl ?_
  exact ⟨rfl, hB⟩
theorem mkL_len {m : Mk} {D : List Dl} (h2 : m.en ≤ D.length) : (mkL m D).pend.length = m.en - m.frm := by
  show ((D.take m.en).drop m.frm).length = _
  rw [List.length_drop, List.length_take]
  omega
theorem cellsD_seg {D : List Dl} {a b : Nat} (h : b ≤ D.length) : cellsD ((D.take b).drop a) = ((cellsD D).drop (a * 2)).take ((b - a) * 2) := by
  have hd : ∀ (l : List Dl) (k : Nat), cellsD (l.drop k) = (cellsD l).drop (k * 2) := by
    intro l
    induction l with
    | nil => intro k; simp [cellsD]
    | cons x l ih =>
      intro k
      cases k with
      | zero => simp
      | succ k =>
        rw [List.drop_succ_cons, ih, cellsD_cons]
        rw [show (k + 1) * 2 = k * 2 + 1 + 1 by omega]
        rfl
  have ht : ∀ (l : List Dl) (k : Nat), cellsD (l.take k) = (cellsD l).take (k * 2) := by
    intro l
    induction l with
    | nil => intro k; simp [cellsD]
    | cons x l ih =>
      intro k
      cases k with
      | zero => simp [cellsD]
      | succ k =>
        rw [List.take_succ_cons, cellsD_cons, cellsD_cons, ih]
        rw [show (k + 1) * 2 = k * 2 + 1 + 1 by omega]
        rfl
  rw [hd, ht, List.drop_take]
  congr 1
  omega
set_option maxRecDepth 100000 in
set_option maxHeartbeats 4000000 in
theorem lexing_any (m : Mk) (D : List Dl) (oa : Option Addr) (n c : Nat) (hD : Src w (.slice oa n c) n (cellsD D)) (hn : n = D.length) (hnc : n ≤ c) (hm : m.frm ≤ m.en) (he : m.en ≤ n) :
    Calls Tryz.prog 60 #[aggM m, .slice oa n c] w fun e w' => ∃ oa' c', e = .returned (aggL (mkL m D) (.slice oa' (m.en - m.frm) c')) ∧ LxR w' (.slice oa' (m.en - m.frm) c') (mkL m D) ∧ Below w.heap.size w w' := by
  have hlen := mkL_len (m := m) (D := D) (by omega)
  have hcs : cellsD (mkL m D).pend = ((cellsD D).drop (m.frm * 2)).take ((m.en - m.frm) * 2) := cellsD_seg (by omega)
  have hL1 : (mkL m D).await = m.await := rfl
  have hL2 : (mkL m D).body = m.body := rfl
  unfold aggL
  rw [hL1, hL2]
  generalize mkL m D = X at *
  have HX := Lib.hid (And.intro hlen hcs)
  obtain ⟨A, bd, f, e⟩ := m
  unfold aggM
  dsimp only at *
  have kb := (Blk.new w #[.int .i64 (A : Int), .bool bd, .int .i64 (f : Int), .int .i64 (e : Int)] 66).alloc (.cells #[.int .i64 0, .slice none 0 0, .bool false] 50)
  have kl := blk_a2 w (.cells #[.int .i64 (A : Int), .bool bd, .int .i64 (f : Int), .int .i64 (e : Int)] 66) #[.int .i64 0, .slice none 0 0, .bool false] 50
  have hB := below_a2' w (.cells #[.int .i64 (A : Int), .bool bd, .int .i64 (f : Int), .int .i64 (e : Int)] 66) (.cells #[.int .i64 0, .slice none 0 0, .bool false] 50)
  have a0 := kb.cell 0
  have a1 := kb.cell 1
  have a2 := kb.cell 2
  have a3 := kb.cell 3
  have q0 : (0 : Int) ≤ (f : Int) := by omega
  have q1 : (f : Int) ≤ (e : Int) := by omega
  have q2 : (e : Int) ≤ (c : Int) := by omega
  clear hL1 hL2 hlen hcs
  rcases hD with ⟨h1, h2, h3⟩ | ⟨b, off, c2, h1, h2, h3⟩
  · cases h1
    have e1 : f = 0 := by omega
    have e2 : e = 0 := by omega
    subst e1 e2
    clear hn hnc hm he
    go_enter Tryz.func60, Tryz.ntmps60
    go_upto_region 1 with fail
    go_region
    go_wp2
    all_goals
      have hB2 := (below_a2' w (.cells #[.int .i64 (A : Int), .bool bd, .int .i64 ((0 : Nat) : Int), .int .i64 ((0 : Nat) : Int)] 66) (.cells #[.int .i64 (A : Int), .slice none 0 0, .bool bd] 50)).drew
      refine bodyPost_ret (v := .agg #[.int .i64 (A : Int), .slice none 0 0, .bool bd]) (by simp [results, Tryz.results60, go_sem]) rfl ?_
      refine ⟨none, 0, rfl, ⟨?_, ⟨none, 0, by rw [HX.out.1], by rw [HX.out.1]; exact Nat.le_refl _⟩⟩, hB2⟩
      rw [HX.out.1, HX.out.2]
      exact .inl ⟨rfl, rfl, by simp⟩
  · cases h1
    have H3 := Lib.hid h3
    have HN := Lib.hid hn
    have hq : (e : Int) - (f : Int) = ((e - f : Nat) : Int) := by omega
    clear h3 hn
    go_enter Tryz.func60, Tryz.ntmps60
    go_upto_region 1 with fail
    go_region
    go_wp2
    · have hn := HN.out
      have k2 := (blk_a2 w (.cells #[.int .i64 (A : Int), .bool bd, .int .i64 (f : Int), .int .i64 (e : Int)] 66) #[.int .i64 (A : Int), .slice (some ⟨b, off, none⟩) (e - f) 0, .bool bd] 50).drew
      have h20 := k2.cell 0
      have h21 := k2.cell 1
      have h22 := k2.cell 2
      have hB2 := (below_a2' w (.cells #[.int .i64 (A : Int), .bool bd, .int .i64 (f : Int), .int .i64 (e : Int)] 66) (.cells #[.int .i64 (A : Int), .slice (some ⟨b, off, none⟩) (e - f) 0, .bool bd] 50)).drew
      refine bodyPost_ret (v := .agg #[.int .i64 (A : Int), .slice (some ⟨b, off, none⟩) (e - f) 0, .bool bd]) (by simp [results, Tryz.results60, go_sem, h20, h21, h22]) rfl ?_
      have hef : e - f = 0 := by omega
      refine ⟨some ⟨b, off, none⟩, 0, rfl, ⟨?_, ⟨some ⟨b, off, none⟩, 0, by rw [HX.out.1], by rw [HX.out.1]; omega⟩⟩, hB2⟩
      rw [HX.out.1, HX.out.2]
      refine .inr ⟨b, off, 0, rfl, Nat.lt_of_lt_of_le h2 hB2.size, fun j u hj => ?_⟩
      rw [hef, Nat.zero_mul, List.take_zero] at hj
      cases hj
    · have hn := HN.out
      have k2 := (blk_a2 w (.cells #[.int .i64 (A : Int), .bool bd, .int .i64 (f : Int), .int .i64 (e : Int)] 66) #[.int .i64 (A : Int), .slice (some ⟨b, off + f * 2, none⟩) (e - f) (c - f), .bool bd] 50).drew
      have h20 := k2.cell 0
      have h21 := k2.cell 1
      have h22 := k2.cell 2
      have hB2 := (below_a2' w (.cells #[.int .i64 (A : Int), .bool bd, .int .i64 (f : Int), .int .i64 (e : Int)] 66) (.cells #[.int .i64 (A : Int), .slice (some ⟨b, off + f * 2, none⟩) (e - f) (c - f), .bool bd] 50)).drew
      refine bodyPost_ret (v := .agg #[.int .i64 (A : Int), .slice (some ⟨b, off + f * 2, none⟩) (e - f) (c - f), .bool bd]) (by simp [results, Tryz.results60, go_sem, h20, h21, h22]) rfl ?_
      refine ⟨some ⟨b, off + f * 2, none⟩, c - f, rfl, ⟨?_, ⟨some ⟨b, off + f * 2, none⟩, c - f, by rw [HX.out.1], by rw [HX.out.1]; omega⟩⟩, hB2⟩
      rw [HX.out.1, HX.out.2]
      refine .inr ⟨b, off + f * 2, c - f, rfl, Nat.lt_of_lt_of_le h2 hB2.size, fun j u hj => ?_⟩
      rw [List.getElem?_take] at hj
      split at hj
      · rw [List.getElem?_drop] at hj
        have := H3.out (f * 2 + j) u hj
        rw [← Nat.add_assoc] at this
        exact (hB2.cell (p := ⟨b, _, none⟩) h2).trans this
      · cases hj
end
end Go.Proofs.YtdjcidackkogjaaGreatDoor
namespace Go.Proofs.YtdjcidackkogjaaGreatDoor
open Go.RowKit
set_option linter.unusedVariables false
set_option linter.unusedSectionVars false

structure DocV (W : World) (b : Nat) (s : ByteArray) (I : List (Tk × Mk)) (E : Mk) (D : List Dl) (oi : Option Addr) (ni ci : Nat) (od : Option Addr) (nd cd : Nat) : Prop where
  blk : Blk W b #[.string s, .slice oi ni ci, .int .i64 (E.await : Int), .bool E.body, .int .i64 (E.frm : Int), .int .i64 (E.en : Int), .slice od nd cd] 68
  its : RdI W oi ni I
  del : Src W (.slice od nd cd) nd (cellsD D)
  ln : nd = D.length
  cap : nd ≤ cd
  il : ∀ g off, oi = some ⟨g, off, none⟩ → g < W.heap.size
  ib : ∀ g off, oi = some ⟨g, off, none⟩ → g ≠ b
  db : ∀ g off, od = some ⟨g, off, none⟩ → g ≠ b
  path : Pth s D 0 Mk.zero I s.size E
  en : E.en = D.length
  sz : s.size ≤ 900
theorem DocV.frm {p : Nat → Prop} {W W' : World} {b : Nat} {s : ByteArray} {I : List (Tk × Mk)} {E : Mk} {D : List Dl} {oi : Option Addr} {ni ci : Nat} {od : Option Addr} {nd cd : Nat} (h : DocV W b s I E D oi ni ci od nd cd) (hf : Frm p W W') (hb : ¬ p b) (hi : ∀ g off, oi = some ⟨g, off, none⟩ → ¬ p g) (hd : ∀ g off, od = some ⟨g, off, none⟩ → ¬ p g) : DocV W' b s I E D oi ni ci od nd cd :=
  ⟨h.blk.frm hf hb, h.its.frm hf hi, h.del.frm hf (fun k hk => by
    rcases od with _ | ⟨g, off, sp⟩
    · cases hk
    · rcases h.del with q | ⟨b', off', c', q, _⟩
      · cases q.1
      · cases q
        injection hk with hk
        subst hk
        exact hd _ _ rfl), h.ln, h.cap, fun g off hg => Nat.lt_of_lt_of_le (h.il g off hg) hf.size, h.ib, h.db, h.path, h.en, h.sz⟩
theorem DocV.below {W W' : World} {b : Nat} {s : ByteArray} {I : List (Tk × Mk)} {E : Mk} {D : List Dl} {oi : Option Addr} {ni ci : Nat} {od : Option Addr} {nd cd : Nat} (h : DocV W b s I E D oi ni ci od nd cd) (hb : Below W.heap.size W W') : DocV W' b s I E D oi ni ci od nd cd := h.frm (Frm.of_below (p := fun _ => False) hb) id (fun _ _ _ => id) (fun _ _ _ => id)
theorem Pth.en_le {s : ByteArray} {D : List Dl} : ∀ {I : List (Tk × Mk)} {a b : Nat} {m n : Mk}, Pth s D a m I b n → n.en ≤ m.en + I.length
  | [], a, b, m, n, h => by
    obtain ⟨_, rfl⟩ := h
    exact Nat.le_refl _
  | q :: I, a, b, m, n, ⟨g1, g2, g3, u, g4, g5⟩ => by
    have h := Pth.en_le g5
    have h2 := g4.e
    have h3 : pushN s a (mkL m D) ≤ 1 := by
      unfold pushN
      split
      · exact Nat.le_refl _
      · exact Nat.zero_le _
    rw [List.length_cons]
    omega
theorem DocV.dl {W : World} {b : Nat} {s : ByteArray} {I : List (Tk × Mk)} {E : Mk} {D : List Dl} {oi : Option Addr} {ni ci : Nat} {od : Option Addr} {nd cd : Nat} (h : DocV W b s I E D oi ni ci od nd cd) : ∀ g off, od = some ⟨g, off, none⟩ → g < W.heap.size := fun g off hg => by
  rcases h.del with q | ⟨b', off', c', q, h2, _⟩
  · have := q.1
    rw [hg] at this
    cases this
  · rw [hg] at q
    cases q
    exact h2
def mkAt (I : List (Tk × Mk)) (E : Mk) (n : Nat) : Mk := match I[n]? with
  | some q => q.2
  | none => E
section
variable (w : World) (b : Nat) (s : ByteArray) (I : List (Tk × Mk)) (E : Mk) (D : List Dl) (oi : Option Addr) (ni ci : Nat) (od : Option Addr) (nd cd : Nat) (hV : DocV w b s I E D oi ni ci od nd cd)
include hV
theorem doc_len : I.length ≤ s.size := by
  have := hV.path.le.2.2.1
  omega
theorem doc_mk (n : Nat) : (mkAt I E n).frm ≤ (mkAt I E n).en ∧ (mkAt I E n).en ≤ D.length := by
  have hE := hV.path.le.2.2.2.2 (Nat.le_refl _) (Nat.zero_le _)
  unfold mkAt
  cases h : I[n]? with
  | none => exact hE
  | some q =>
    obtain ⟨I1, I2, rfl, hl⟩ : ∃ I1 I2, I = I1 ++ I2 ∧ I1.length = n := ⟨I.take n, I.drop n, (List.take_append_drop _ _).symm, by rw [List.length_take]; have := (List.getElem?_eq_some_iff.1 h).1; omega⟩
    obtain ⟨c, m, h1, h2⟩ := hV.path.split
    rw [List.getElem?_append_right (by omega), hl, Nat.sub_self] at h
    match I2, h, h2 with
    | q' :: r, h, ⟨_, g2, _⟩ =>
      have e : q' = q := by simpa using h
      subst e
      show q'.2.frm ≤ q'.2.en ∧ q'.2.en ≤ D.length
      rw [g2]
      exact h1.le.2.2.2.2 (Nat.le_refl _) (Nat.zero_le _)
set_option maxRecDepth 100000 in
set_option maxHeartbeats 4000000 in
theorem dmark_any (n : Nat) (hn : n ≤ I.length) : Calls Tryz.prog 44 #[.pointer (some ⟨b, 0, none⟩), .int .i64 (n : Int)] w fun e w' => e = .returned (aggM (mkAt I E n)) ∧ Below w.heap.size w w' := by
  have hlen := hV.its.len
  have hle := doc_len w b s I E D oi ni ci od nd cd hV
  have hsz := hV.sz
  have hB := (Below.refl w.heap.size w).alloc (Nat.le_refl _) (.cells #[.int .i64 0, .bool false, .int .i64 0, .int .i64 0] 66)
  have k := (hV.blk).below hB
  have a1 := k.cell 1
  by_cases he : n = I.length
  · have hm : mkAt I E n = E := by unfold mkAt; rw [List.getElem?_eq_none (by omega)]
    rw [hm]
    have a2 := k.cell 2
    have a3 := k.cell 3
    have a4 := k.cell 4
    have a5 := k.cell 5
    have hq : n = ni := by omega
    subst hq
    have hbl : b < w.heap.size := hV.blk.lt
    clear hm he hlen hV
    obtain ⟨A, bd, f, e⟩ := E
    unfold aggM
    dsimp only at *
    go_enter Tryz.func44, Tryz.ntmps44
    go_wp2
    have k2 := Blk.new w #[.int .i64 (A : Int), .bool bd, .int .i64 (f : Int), .int .i64 (e : Int)] 66
    have h20 := k2.cell 0
    have h21 := k2.cell 1
    have h22 := k2.cell 2
    have h23 := k2.cell 3
    refine bodyPost_ret (v := .agg #[.int .i64 (A : Int), .bool bd, .int .i64 (f : Int), .int .i64 (e : Int)]) (by simp [results, Tryz.results44, go_sem, h20, h21, h22, h23]) rfl ?_
    exact ⟨rfl, (Below.refl w.heap.size w).alloc (Nat.le_refl _) _⟩
  · have hlt : n < I.length := by omega
    have hg : I[n]? = some I[n] := List.getElem?_eq_getElem _
    generalize I[n] = q at hg
    have hm : mkAt I E n = q.2 := by unfold mkAt; rw [hg]
    rw [hm]
    obtain ⟨g1, o1, rfl, h1, hi⟩ := hV.its.cells n q hg
    have hi' := hi.of (fun k => hB.cell (p := ⟨g1, k, none⟩) h1)
    obtain ⟨⟨tk, tf, te, top⟩, ⟨A, bd, f, e⟩⟩ := q
    have c4 := hi'.c4
    have c5 := hi'.c5
    have c6 := hi'.c6
    have c7 := hi'.c7
    dsimp only at c4 c5 c6 c7
    unfold aggM
    dsimp only
    have q1 : (n : Int) < (ni : Int) := by omega
    have q0 : (0 : Int) ≤ (n : Int) := by omega
    have q2 : ((n : Int) == (ni : Int)) = false := beq_eq_false_iff_ne.2 (by omega)
    clear hm hi hi' hV hg hlt he
    go_enter Tryz.func44, Tryz.ntmps44
    go_wp2
    have k2 := Blk.new w #[.int .i64 (A : Int), .bool bd, .int .i64 (f : Int), .int .i64 (e : Int)] 66
    have h20 := k2.cell 0
    have h21 := k2.cell 1
    have h22 := k2.cell 2
    have h23 := k2.cell 3
    refine bodyPost_ret (v := .agg #[.int .i64 (A : Int), .bool bd, .int .i64 (f : Int), .int .i64 (e : Int)]) (by simp [results, Tryz.results44, go_sem, h20, h21, h22, h23]) rfl ?_
    exact ⟨rfl, (Below.refl w.heap.size w).alloc (Nat.le_refl _) _⟩
def StT (V W : World) (A : Nat) (bd : Bool) (k : Nat) (X : Lx) (v : Value) : Prop :=
  ∃ (bx : Nat) (o : Option Addr) (c : Nat), v = .pointer (some ⟨bx, 0, none⟩) ∧ Blk W bx #[.int .i64 (A : Int), .slice o k c, .bool bd] 50 ∧ LxR W (.slice o k c) X ∧ Below V.heap.size V W ∧ V.heap.size ≤ bx
omit hV in
theorem stt_new {V X : World} {A : Nat} {bd : Bool} {k : Nat} {x : Lx} {o : Option Addr} {c : Nat} (hb : Below V.heap.size V X) (hL : LxR X (.slice o k c) x) :
    StT V (X.alloc (.cells #[.int .i64 (A : Int), .slice o k c, .bool bd] 50)) A bd k x (.pointer (some ⟨X.heap.size, 0, none⟩)) :=
  ⟨X.heap.size, o, c, rfl, Blk.new X _ _, hL.below ((Below.refl _ _).alloc (Nat.le_refl _) _), hb.alloc hb.size _, hb.size⟩
omit hV in
theorem stt_three {V X : World} {bx A : Nat} {bd : Bool} {k : Nat} {x : Lx} {o : Option Addr} {c : Nat} {a0 : Int} {q0 : Option Addr} {q1 q2 : Nat} {e0 : Bool} (hb : Below V.heap.size V X) (hL : LxR X (.slice o k c) x)
    (kx : Blk X bx #[.int .i64 a0, .slice q0 q1 q2, .bool e0] 50) (h2 : V.heap.size ≤ bx) :
    StT V (((X.setCell ⟨bx, 0, none⟩ (.int .i64 (A : Int))).setCell ⟨bx, 1, none⟩ (.slice o k c)).setCell ⟨bx, 2, none⟩ (.bool bd)) A bd k x (.pointer (some ⟨bx, 0, none⟩)) := by
  have hF : Frm (fun k => k = bx) X (((X.setCell ⟨bx, 0, none⟩ (.int .i64 (A : Int))).setCell ⟨bx, 1, none⟩ (.slice o k c)).setCell ⟨bx, 2, none⟩ (.bool bd)) :=
    Frm.setCell (p := fun k => k = bx) (Frm.setCell (p := fun k => k = bx) (Frm.setCell (p := fun k => k = bx) (Frm.refl _ X) 0 (.inl rfl) _) 1 (.inl rfl) _) 2 (.inl rfl) _
  exact ⟨bx, o, c, rfl, ((kx.set 0 _).set 1 _).set 2 _, hL.keepB kx no_str3 hF, hb.trans (hF.below hb.size (fun k hk => by rw [hk]; exact h2)), h2⟩
omit hV in
theorem keepT {X : World} {g h b o q : Nat} {v u v0 v1 v2 v3 : Value} (hB : g ≠ b ∧ h ≠ b) (hh : X.cell? ⟨g, q, none⟩ = some u ∧ X.cell? ⟨h, 0, none⟩ = some v0 ∧ X.cell? ⟨h, 1, none⟩ = some v1 ∧ X.cell? ⟨h, 2, none⟩ = some v2 ∧ X.cell? ⟨h, 3, none⟩ = some v3) :
    (X.setCell ⟨b, o, none⟩ v).cell? ⟨g, q, none⟩ = some u ∧ (X.setCell ⟨b, o, none⟩ v).cell? ⟨h, 0, none⟩ = some v0 ∧ (X.setCell ⟨b, o, none⟩ v).cell? ⟨h, 1, none⟩ = some v1 ∧ (X.setCell ⟨b, o, none⟩ v).cell? ⟨h, 2, none⟩ = some v2 ∧ (X.setCell ⟨b, o, none⟩ v).cell? ⟨h, 3, none⟩ = some v3 := by
  have e1 : ∀ j, (X.setCell ⟨b, o, none⟩ v).cell? ⟨h, j, none⟩ = X.cell? ⟨h, j, none⟩ := fun j => World.cell?_of_block (Below.heap_setCell X _ _ h hB.2)
  have e2 : ∀ j, (X.setCell ⟨b, o, none⟩ v).cell? ⟨g, j, none⟩ = X.cell? ⟨g, j, none⟩ := fun j => World.cell?_of_block (Below.heap_setCell X _ _ g hB.1)
  simp only [e1, e2]
  exact hh
set_option maxRecDepth 100000 in
set_option maxHeartbeats 4000000 in
theorem told_any (m : Mk) (hm : m.frm ≤ m.en) (he : m.en ≤ D.length) : Calls Tryz.prog 37 #[.pointer (some ⟨b, 0, none⟩), aggM m] w fun e w' => ∃ oa' n' c', e = .returned (aggL (mkL m D) (.slice oa' n' c')) ∧ LxR w' (.slice oa' n' c') (mkL m D) ∧ Below w.heap.size w w' := by
  have hlen := mkL_len (m := m) (D := D) (by omega)
  have hLX := fun W (hW : Below w.heap.size w W) => lexing_any W m D od nd cd (hV.del.below hW) hV.ln hV.cap hm (by have := hV.ln; omega)
  have hL1 : (mkL m D).await = m.await := rfl
  have hL2 : (mkL m D).body = m.body := rfl
  have hK := hV.blk
  have hbl := hK.lt
  have hDl : D.length ≤ 900000 := by
    have h1 := Pth.en_le hV.path
    have h2 := hV.en
    have h3 := hV.sz
    have h4 := doc_len w b s I E D oi ni ci od nd cd hV
    have h5 : Mk.zero.en = 0 := rfl
    omega
  unfold aggL at hLX ⊢
  rw [hL1, hL2] at hLX ⊢
  generalize mkL m D = X at *
  obtain ⟨A, bd, f, e⟩ := m
  unfold aggM at hLX ⊢
  dsimp only at *
  obtain ⟨k, hk⟩ : ∃ k, e - f = k := ⟨_, rfl⟩
  rw [hk] at hLX hlen
  have HLN := Lib.hid hlen
  have hke : k ≤ 900000 := by omega
  have HLX := Lib.hid (fun W hW => (hLX W hW).mono (fun e' w' h => (by
    obtain ⟨oa1, c1, h1, h2, h3⟩ := h
    exact ⟨_, h1, oa1, c1, rfl, h2, h3⟩ : ∃ v, e' = .returned v ∧ (∃ oa1 c1, v = .agg #[.int .i64 (A : Int), .slice oa1 k c1, .bool bd] ∧ LxR w' (.slice oa1 k c1) X ∧ Below W.heap.size W w'))))
  obtain ⟨W0, hW0⟩ : ∃ Z, (w.alloc (.cells #[.int .i64 (A : Int), .bool bd, .int .i64 (f : Int), .int .i64 (e : Int)] 66)).alloc (.cells #[.int .i64 0, .slice none 0 0, .bool false] 50) = Z := ⟨_, rfl⟩
  have hB0 : Below w.heap.size w W0 := by rw [← hW0]; exact below_a2' w _ _
  have k3 : Blk W0 w.heap.size #[.int .i64 (A : Int), .bool bd, .int .i64 (f : Int), .int .i64 (e : Int)] 66 := by rw [← hW0]; exact (Blk.new w _ _).alloc _
  have k4 : Blk W0 (w.heap.size + 1) #[.int .i64 0, .slice none 0 0, .bool false] 50 := by rw [← hW0]; exact blk_a2 w _ _ _
  have kd := hK.below hB0
  have hkp : ∀ W, Below W0.heap.size W0 W → W.cell? ⟨b, 6, none⟩ = some (.slice od nd cd) ∧ W.cell? ⟨w.heap.size, 0, none⟩ = some (.int .i64 (A : Int)) ∧ W.cell? ⟨w.heap.size, 1, none⟩ = some (.bool bd) ∧ W.cell? ⟨w.heap.size, 2, none⟩ = some (.int .i64 (f : Int)) ∧ W.cell? ⟨w.heap.size, 3, none⟩ = some (.int .i64 (e : Int)) := fun W hW => ⟨(kd.below hW).cell 6, (k3.below hW).cell 0, (k3.below hW).cell 1, (k3.below hW).cell 2, (k3.below hW).cell 3⟩
  have HKP := Lib.hid hkp
  have e0 := hkp _ (Below.refl W0.heap.size W0).drew
  have ea := fun o => hkp _ (((Below.refl W0.heap.size W0).alloc (Nat.le_refl _) o).drew)
  have HW0 := Lib.hid hW0
  have HB0 := Lib.hid hB0
  have H4 := Lib.hid k4
  have hz0 : w.heap.size + 1 < W0.heap.size := k4.lt
  clear hLX hL1 hL2 hK hlen hk hm he hV hkp kd k3 k4 hB0 hW0
  go_enter Tryz.func37, Tryz.ntmps37
  go_upto_region 1 with fail
  rw [HW0.out]
  go_cut [5] from 6 to 11 (fun v wx => StT W0 wx A bd k X v)
  case first =>
    go_region_held_law (fun W => W.cell? ⟨b, 6, none⟩ = some (.slice od nd cd) ∧ W.cell? ⟨w.heap.size, 0, none⟩ = some (.int .i64 (A : Int)) ∧ W.cell? ⟨w.heap.size, 1, none⟩ = some (.bool bd) ∧ W.cell? ⟨w.heap.size, 2, none⟩ = some (.int .i64 (f : Int)) ∧ W.cell? ⟨w.heap.size, 3, none⟩ = some (.int .i64 (e : Int))) (((repeat (with_reducible (refine keepT (by omega) ?_))); with_reducible (first | exact e0 | exact ea _ | exact s4 | exact s4a _))) (first
      | (refine step_call (by rfl) Tryz.func60 (by kernel_rfl) (by kernel_rfl) _ _ (by rfl) [.agg #[.int .i64 (A : Int), .bool bd, .int .i64 (f : Int), .int .i64 (e : Int)], .slice od nd cd] (by rfl) _ (HLX.out W0.drew HB0.out.drew) ?_; intro v w4 hh; obtain ⟨o9, c9, hv4, hM9, hb4⟩ := hh; subst hv4; have hb04 : Below W0.heap.size W0 w4 := (Below.refl W0.heap.size W0).drew.trans hb4; have s4 := HKP.out _ hb04; have s4a := fun o => HKP.out _ (hb04.alloc hb04.size o))
      | (refine step_call (by rfl) Tryz.func60 (by kernel_rfl) (by kernel_rfl) _ _ (by rfl) [.agg #[.int .i64 (A : Int), .bool bd, .int .i64 (f : Int), .int .i64 (e : Int)], .slice od nd cd] (by rfl) _ (HLX.out (W0.alloc (.cells #[.int .i64 0, .slice none 0 0, .bool false] 50)).drew (HB0.out.alloc HB0.out.size _).drew) ?_; intro v w4 hh; obtain ⟨o9, c9, hv4, hM9, hb4⟩ := hh; subst hv4; have hb0 := ((Below.refl W0.heap.size W0).alloc (Nat.le_refl _) (.cells #[.int .i64 0, .slice none 0 0, .bool false] 50)).drew; have hb04 : Below W0.heap.size W0 w4 := hb0.trans (hb4.mono hb0.size); have s4 := HKP.out _ hb04; have s4a := fun o => HKP.out _ (hb04.alloc hb04.size o); have kx := ((Blk.new W0 #[.int .i64 0, .slice none 0 0, .bool false] 50).drew).below hb4; have kxc0 := kx.cell 0; have kxc1 := kx.cell 1; have kxc2 := kx.cell 2; have kxf0 := kx.frozen 0; have kxf1 := kx.frozen 1; have kxf2 := kx.frozen 2))
    all_goals
      go_step
      go_step
      go_meet
      case rel =>
        first
          | with_reducible exact stt_new hb04 hM9
          | with_reducible exact stt_three hb04 hM9 kx (Nat.le_refl _)
  case rest =>
    obtain ⟨bx, o9, c9, rfl, kx, hM9, hb5, hge⟩ := hcut
    generalize wc = w5 at *
    have x1 := kx.cell 1
    go_wp2_with fail
    refine (cloneD_any w5 X.pend o9 k c9 (by have := hM9.src; rw [HLN.out] at this; exact this) HLN.out.symm hke).mono ?_
    rintro e' w6 ⟨oa2, c2, rfl, ho2, hb6⟩
    have kx6 := kx.below hb6
    have k46 := (H4.out.below hb5).below hb6
    have hB6 := (HB0.out.trans (hb5.mono HB0.out.size)).trans (hb6.mono (Nat.le_trans HB0.out.size hb5.size))
    have hzb : bx < w5.heap.size := kx.lt
    have hz5 : w.heap.size + 1 < w5.heap.size := Nat.lt_of_lt_of_le hz0 hb5.size
    have hne : w.heap.size + 1 ≠ bx := by omega
    have kx7 := kx6.set 1 (.slice oa2 k c2)
    have k47 := k46.other 1 (.slice oa2 k c2) (b' := bx) hne
    have x0 := kx6.cell 0
    have x1' := kx6.cell 1
    have x2 := kx6.cell 2
    have xf0 := kx6.frozen 0
    have xf1 := kx6.frozen 1
    have xf2 := kx6.frozen 2
    have y0 := kx7.cell 0
    have y1 := kx7.cell 1
    have y2 := kx7.cell 2
    have z0 := k47.cell 0
    have z1 := k47.cell 1
    have z2 := k47.cell 2
    have zf0 := k47.frozen 0
    have zf1 := k47.frozen 1
    have zf2 := k47.frozen 2
    have k48 := ((k47.set 0 (.int .i64 (A : Int))).set 1 (.slice oa2 k c2)).set 2 (.bool bd)
    have hF7 : Frm (fun j => j = bx ∨ j = w.heap.size + 1) w6 ((((w6.setCell ⟨bx, 1, none⟩ (.slice oa2 k c2)).setCell ⟨w.heap.size + 1, 0, none⟩ (.int .i64 (A : Int))).setCell ⟨w.heap.size + 1, 1, none⟩ (.slice oa2 k c2)).setCell ⟨w.heap.size + 1, 2, none⟩ (.bool bd)) :=
      Frm.setCell (p := fun j => j = bx ∨ j = w.heap.size + 1) (Frm.setCell (p := fun j => j = bx ∨ j = w.heap.size + 1) (Frm.setCell (p := fun j => j = bx ∨ j = w.heap.size + 1) (Frm.setCell (p := fun j => j = bx ∨ j = w.heap.size + 1) (Frm.refl _ w6) 1 (.inl (.inl rfl)) _) 0 (.inl (.inr rfl)) _) 1 (.inl (.inr rfl)) _) 2 (.inl (.inr rfl)) _
    have hge2 := own_ge ho2
    have ho8 := own_frm hF7 ho2 (fun g hg hh => by
      have := hge2 g hg
      rcases hh with e | e <;> omega)
    have hcap := own_cap ho2
    have HFIN := Lib.hid (And.intro k48 (And.intro hF7 (And.intro ho8 (And.intro hB6 (And.intro hcap (And.intro hge HB0.out.size))))))
    clear kx6 k46 kx7 k47 k48 hF7 ho8 ho2 hB6 hge2 hb5 hb6 kx hM9 x1 hcap
    go_wp2
    obtain ⟨k48, hF7, ho8, hB6, hcap, hge', hsz⟩ := HFIN.out
    have u0 := k48.cell 0
    have u1 := k48.cell 1
    have u2 := k48.cell 2
    refine bodyPost_ret (v := .agg #[.int .i64 (A : Int), .slice oa2 k c2, .bool bd]) (by simp [results, Tryz.results37, go_sem, u0, u1, u2]) rfl ?_
    refine ⟨oa2, k, c2, rfl, ⟨?_, ⟨oa2, c2, by rw [HLN.out], by rw [HLN.out]; exact hcap⟩⟩, hB6.trans (hF7.below hB6.size (fun j hj => by rcases hj with e | e <;> omega))⟩
    rw [HLN.out]
    exact Src.of_own ho8
end
end Go.Proofs.YtdjcidackkogjaaGreatDoor
namespace Go.Proofs.YtdjcidackkogjaaGreatDoor
open Go.RowKit
set_option linter.unusedVariables false
set_option linter.unusedSectionVars false

theorem set4 {arr : Array Value} {n i : Nat} (hs : arr.size = n * 4) (hi : i < n) (v0 v1 v2 v3 : Value) : ∃ arr' : Array Value, (((arr.setIfInBounds (i * 4) v0).setIfInBounds (i * 4 + 1) v1).setIfInBounds (i * 4 + 2) v2).setIfInBounds (i * 4 + 3) v3 = arr' ∧ arr'.size = n * 4 ∧ (∀ o, o < i * 4 → arr'[o]? = arr[o]?) ∧ arr'[i * 4]? = some v0 ∧ arr'[i * 4 + 1]? = some v1 ∧ arr'[i * 4 + 2]? = some v2 ∧ arr'[i * 4 + 3]? = some v3 := by
  refine ⟨_, rfl, by simp [hs], fun o ho => ?_, ?_, ?_, ?_, ?_⟩
  · rw [Array.getElem?_setIfInBounds_ne (by omega), Array.getElem?_setIfInBounds_ne (by omega), Array.getElem?_setIfInBounds_ne (by omega), Array.getElem?_setIfInBounds_ne (by omega)]
  · rw [Array.getElem?_setIfInBounds_ne (by omega), Array.getElem?_setIfInBounds_ne (by omega), Array.getElem?_setIfInBounds_ne (by omega), Array.getElem?_setIfInBounds_self_of_lt (by omega)]
  · rw [Array.getElem?_setIfInBounds_ne (by omega), Array.getElem?_setIfInBounds_ne (by omega), Array.getElem?_setIfInBounds_self_of_lt (by simp; omega)]
  · rw [Array.getElem?_setIfInBounds_ne (by omega), Array.getElem?_setIfInBounds_self_of_lt (by simp; omega)]
  · rw [Array.getElem?_setIfInBounds_self_of_lt (by simp; omega)]
def TkRl (l : List Tk) (W : World) (z n : Nat) (v : Value) (wr : World) : Prop :=
  ∃ (i : Nat) (arr : Array Value), i ≤ n ∧ v = .int .i64 (i : Int) ∧ Blk wr z arr 44 ∧ arr.size = n * 4 ∧ (∀ (j : Nat) t, j < i → l[j]? = some t → arr[j * 4]? = some (.int .i64 (t.kind : Int)) ∧ arr[j * 4 + 1]? = some (.int .i64 (t.frm : Int)) ∧ arr[j * 4 + 2]? = some (.int .i64 (t.en : Int)) ∧ arr[j * 4 + 3]? = some (.bool t.op)) ∧ Frm (fun k => k = z) W wr
section
variable (w : World) (b : Nat) (s : ByteArray) (I : List (Tk × Mk)) (E : Mk) (D : List Dl) (oi : Option Addr) (ni ci : Nat) (od : Option Addr) (nd cd : Nat) (hV : DocV w b s I E D oi ni ci od nd cd)
include hV
set_option maxHeartbeats 4000000 in
theorem dtext_any : Calls Tryz.prog 25 #[.pointer (some ⟨b, 0, none⟩)] w fun e w' => e = .returned (.string s) ∧ w' = w := by
  have a0 := hV.blk.cell 0
  clear hV
  go_enter Tryz.func25, Tryz.ntmps25
  go_wp2
  go_ret
  exact ⟨rfl, rfl⟩
set_option maxRecDepth 100000 in
set_option maxHeartbeats 4000000 in
theorem dlexing_any : Calls Tryz.prog 26 #[.pointer (some ⟨b, 0, none⟩)] w fun e w' => ∃ oa' n' c', e = .returned (aggL (mkL E D) (.slice oa' n' c')) ∧ LxR w' (.slice oa' n' c') (mkL E D) ∧ Below w.heap.size w w' := by
  have hE := hV.path.le.2.2.2.2 (Nat.le_refl _) (Nat.zero_le _)
  have hB := (Below.refl w.heap.size w).alloc (Nat.le_refl _) (.cells #[.int .i64 0, .slice none 0 0, .bool false] 50)
  have hV1 := hV.below hB
  have HTO := Lib.hid (told_any _ b s I E D oi ni ci od nd cd hV1 E hE.1 hE.2)
  have k := hV1.blk
  have kl := Blk.new w #[.int .i64 0, .slice none 0 0, .bool false] 50
  have a2 := k.cell 2
  have a3 := k.cell 3
  have a4 := k.cell 4
  have a5 := k.cell 5
  have HB := Lib.hid hB
  have HKL := Lib.hid kl
  clear hV hV1 k kl hB hE
  unfold aggL aggM at HTO
  unfold aggL
  generalize mkL E D = X at *
  obtain ⟨A, bd, f, e⟩ := E
  dsimp only at *
  go_enter Tryz.func26, Tryz.ntmps26
  go_wp2_with fail
  refine (HTO.out).mono ?_
  rintro e1 w1 ⟨o1, n1, c1, rfl, hM1, hb1⟩
  have kl1 := HKL.out.below hb1
  have x0 := kl1.cell 0
  have x1 := kl1.cell 1
  have x2 := kl1.cell 2
  have f0 := kl1.frozen 0
  have f1 := kl1.frozen 1
  have f2 := kl1.frozen 2
  have k2 := ((kl1.set 0 (.int .i64 (X.await : Int))).set 1 (.slice o1 n1 c1)).set 2 (.bool X.body)
  have hF : Frm (fun j => j = w.heap.size) w1 (((w1.setCell ⟨w.heap.size, 0, none⟩ (.int .i64 (X.await : Int))).setCell ⟨w.heap.size, 1, none⟩ (.slice o1 n1 c1)).setCell ⟨w.heap.size, 2, none⟩ (.bool X.body)) :=
    Frm.setCell (p := fun j => j = w.heap.size) (Frm.setCell (p := fun j => j = w.heap.size) (Frm.setCell (p := fun j => j = w.heap.size) (Frm.refl _ w1) 0 (.inl rfl) _) 1 (.inl rfl) _) 2 (.inl rfl) _
  have HFIN := Lib.hid (And.intro k2 (And.intro (hM1.keepB kl1 no_str3 hF) (And.intro hF hb1)))
  clear kl1 k2 hF hM1 hb1
  go_wp2
  obtain ⟨k2, hM2, hF, hb1⟩ := HFIN.out
  have u0 := k2.cell 0
  have u1 := k2.cell 1
  have u2 := k2.cell 2
  refine bodyPost_ret (v := .agg #[.int .i64 (X.await : Int), .slice o1 n1 c1, .bool X.body]) (by simp [results, Tryz.results26, go_sem, u0, u1, u2]) rfl ?_
  have hB1 := HB.out.trans (hb1.mono HB.out.size)
  exact ⟨o1, n1, c1, rfl, hM2, hB1.trans (hF.below hB1.size (fun j hj => by rw [hj]; exact Nat.le_refl _))⟩
set_option maxRecDepth 100000 in
set_option maxHeartbeats 4000000 in
theorem dtokens_any : Calls Tryz.prog 16 #[.pointer (some ⟨b, 0, none⟩)] w fun e w' => ∃ z c, e = .returned (.slice (some ⟨z, 0, none⟩) ni c) ∧ RdK w' (some ⟨z, 0, none⟩) ni (I.map Prod.fst) ∧ w.heap.size ≤ z ∧ Below w.heap.size w w' ∧ ni ≤ c := by
  have hln := hV.its.len
  have hle := doc_len w b s I E D oi ni ci od nd cd hV
  have hsz := hV.sz
  have hn9 : ni ≤ 900 := by omega
  obtain ⟨i0, hi0, hz0, hs0, hb0⟩ := info_parts infoTk
  have hmk0 := fun W => run_make (P := Tryz.prog) W 39 44 i0 _ Tryz.underlying39 hi0 hz0 .i64 .i64 (ni : Int) (ni : Int) (by omega) (Int.le_refl _) (by rw [hb0]; omega) (by omega)
  simp only [Int.toNat_natCast, hs0] at hmk0
  obtain ⟨M0, hM0⟩ : ∃ M, madeCells (Value.agg #[.int .i64 0, .int .i64 0, .int .i64 0, .bool false]).cells (ni * 4) = M := ⟨_, rfl⟩
  have hM1 : M0.size = ni * 4 := by rw [← hM0, size_madeCells]
  rw [hM0] at hmk0
  clear hM0
  have hmk : ∀ W, (Instr.makeSlice 39 (.int .i64 (ni : Int)) (.int .i64 (ni : Int))).run Tryz.prog W = .ok (.slice (some ⟨W.heap.size, 0, none⟩) ni ni) (W.alloc (.cells M0 44)) := hmk0
  have hB := (Below.refl w.heap.size w).alloc (Nat.le_refl _) (.cells M0 44)
  have kz := Blk.new w M0 44
  have hV1 := hV.below hB
  have a1 := hV.blk.cell 1
  have a1' := hV1.blk.cell 1
  have HV := Lib.hid hV
  have HI := Lib.hid hV1.its
  have HB := Lib.hid hB
  have HLN := Lib.hid hln
  have HM1 := Lib.hid hM1
  have HI0 := Lib.hid (And.intro hi0 (And.intro hz0 (And.intro hs0 hb0)))
  clear hmk0 hV hV1 hln hle hM1 hi0 hz0 hs0 hb0 hB
  go_enter Tryz.func16, Tryz.ntmps16
  go_wp2
  obtain ⟨W1, hW1⟩ : ∃ Z, w.alloc (.cells M0 44) = Z := ⟨_, rfl⟩
  rw [hW1] at kz HI HB a1' ⊢
  obtain ⟨z, hz⟩ : ∃ z, w.heap.size = z := ⟨_, rfl⟩
  rw [hz] at kz ⊢
  have HZ := Lib.hid hz
  clear hW1 hz
  go_loopw [17] (fun v wr => TkRl (I.map Prod.fst) W1 z ni v wr) (fun v _ => ni - (intOf v).toNat)
  case atStart => exact ⟨0, M0, Nat.zero_le _, rfl, kz, HM1.out, fun j t hj => by omega, Frm.refl _ _⟩
  case round =>
    obtain ⟨i, arr, hi, rfl, kz', hsz', hcs, hF⟩ := hrel
    have HF := Lib.hid hF
    have HCS := Lib.hid hcs
    have HSZ := Lib.hid hsz'
    by_cases hlt : i < ni
    · have q1 : (i : Int) < (ni : Int) := by omega
      have q0 : (0 : Int) ≤ (i : Int) := by omega
      have hg : I[i]? = some (I[i]'(by have := HLN.out; omega)) := List.getElem?_eq_getElem _
      generalize I[i]'(by have := HLN.out; omega) = q at hg
      obtain ⟨g1, o1, rfl, h1, hit⟩ := HV.out.its.cells i q hg
      have hgz : g1 ≠ z := by have := HZ.out; omega
      have hg1 : g1 < W1.heap.size := Nat.lt_of_lt_of_le h1 HB.out.size
      have hit2 := hit.of (fun k => (hF.cell (a := ⟨g1, k, none⟩) hg1 hgz).trans (HB.out.cell (p := ⟨g1, k, none⟩) h1))
      obtain ⟨⟨tk, tf, te, top⟩, ⟨A, bd, f, e⟩⟩ := q
      obtain ⟨c0, c1, c2, c3, c4, c5, c6, c7⟩ := hit2
      dsimp only at c0 c1 c2 c3 c4 c5 c6 c7
      have HG := Lib.hid hg
      have hex : ∀ k, k < 4 → ∃ u, arr[i * 4 + k]? = some u := fun k hk => ⟨_, Array.getElem?_eq_getElem (by omega)⟩
      obtain ⟨u0, hu0⟩ := hex 0 (by omega)
      obtain ⟨u1, hu1⟩ := hex 1 (by omega)
      obtain ⟨u2, hu2⟩ := hex 2 (by omega)
      obtain ⟨u3, hu3⟩ := hex 3 (by omega)
      rw [Nat.add_zero] at hu0
      have k0 := kz'
      have k1 := k0.set (i * 4) (.int .i64 (tk : Int))
      have k2 := k1.set (i * 4 + 1) (.int .i64 (tf : Int))
      have k3 := k2.set (i * 4 + 2) (.int .i64 (te : Int))
      have g1' : (arr.setIfInBounds (i * 4) (.int .i64 (tk : Int)))[i * 4 + 1]? = some u1 := by rw [Array.getElem?_setIfInBounds_ne (by omega)]; exact hu1
      have g2' : ((arr.setIfInBounds (i * 4) (.int .i64 (tk : Int))).setIfInBounds (i * 4 + 1) (.int .i64 (tf : Int)))[i * 4 + 2]? = some u2 := by rw [Array.getElem?_setIfInBounds_ne (by omega), Array.getElem?_setIfInBounds_ne (by omega)]; exact hu2
      have g3' : (((arr.setIfInBounds (i * 4) (.int .i64 (tk : Int))).setIfInBounds (i * 4 + 1) (.int .i64 (tf : Int))).setIfInBounds (i * 4 + 2) (.int .i64 (te : Int)))[i * 4 + 3]? = some u3 := by rw [Array.getElem?_setIfInBounds_ne (by omega), Array.getElem?_setIfInBounds_ne (by omega), Array.getElem?_setIfInBounds_ne (by omega)]; exact hu3
      have d0 := (k0.cell (i * 4)).trans hu0
      have d1 := (k1.cell (i * 4 + 1)).trans g1'
      have d2 := (k2.cell (i * 4 + 2)).trans g2'
      have d3 := (k3.cell (i * 4 + 3)).trans g3'
      have f0 := k0.frozen (i * 4)
      have f1 := k1.frozen (i * 4 + 1)
      have f2 := k2.frozen (i * 4 + 2)
      have f3 := k3.frozen (i * 4 + 3)
      have e1 := ((k1.alloc (.cells #[.int .i64 (tk : Int), .int .i64 (tf : Int), .int .i64 (te : Int), .bool top, .int .i64 (A : Int), .bool bd, .int .i64 (f : Int), .int .i64 (e : Int)] 82)).cell (i * 4 + 1)).trans g1'
      have e2 := ((k2.alloc (.cells #[.int .i64 (tk : Int), .int .i64 (tf : Int), .int .i64 (te : Int), .bool top, .int .i64 (A : Int), .bool bd, .int .i64 (f : Int), .int .i64 (e : Int)] 82)).cell (i * 4 + 2)).trans g2'
      have e3 := ((k3.alloc (.cells #[.int .i64 (tk : Int), .int .i64 (tf : Int), .int .i64 (te : Int), .bool top, .int .i64 (A : Int), .bool bd, .int .i64 (f : Int), .int .i64 (e : Int)] 82)).cell (i * 4 + 3)).trans g3'
      have p1 := (k1.alloc (.cells #[.int .i64 (tk : Int), .int .i64 (tf : Int), .int .i64 (te : Int), .bool top, .int .i64 (A : Int), .bool bd, .int .i64 (f : Int), .int .i64 (e : Int)] 82)).frozen (i * 4 + 1)
      have p2 := (k2.alloc (.cells #[.int .i64 (tk : Int), .int .i64 (tf : Int), .int .i64 (te : Int), .bool top, .int .i64 (A : Int), .bool bd, .int .i64 (f : Int), .int .i64 (e : Int)] 82)).frozen (i * 4 + 2)
      have p3 := (k3.alloc (.cells #[.int .i64 (tk : Int), .int .i64 (tf : Int), .int .i64 (te : Int), .bool top, .int .i64 (A : Int), .bool bd, .int .i64 (f : Int), .int .i64 (e : Int)] 82)).frozen (i * 4 + 3)
      have HKA := Lib.hid k3
      have hzl : z < wr.heap.size := kz'.lt
      clear hit hg hex hu0 hu1 hu2 hu3 g1' g2' g3' k0 k1 k2 k3 kz' hF hcs hsz'
      go_wp2
      go_roundw
      case rel =>
        obtain ⟨arr', h0, h1', h2, h3, h4, h5, h6⟩ := set4 HSZ.out hlt (.int .i64 (tk : Int)) (.int .i64 (tf : Int)) (.int .i64 (te : Int)) (.bool top)
        have k4 := (HKA.out.set (i * 4 + 3) (.bool top)).alloc (.cells #[.int .i64 (tk : Int), .int .i64 (tf : Int), .int .i64 (te : Int), .bool top, .int .i64 (A : Int), .bool bd, .int .i64 (f : Int), .int .i64 (e : Int)] 82)
        rw [h0] at k4
        refine ⟨i + 1, arr', by omega, by go_num, k4, h1', fun j t hj ht => ?_, ?_⟩
        · rcases Nat.lt_or_ge j i with g | g
          · obtain ⟨e0, e1, e2, e3⟩ := HCS.out j t g ht
            exact ⟨(h2 _ (by omega)).trans e0, (h2 _ (by omega)).trans e1, (h2 _ (by omega)).trans e2, (h2 _ (by omega)).trans e3⟩
          · have hji : j = i := by omega
            subst hji
            rw [List.getElem?_map, HG.out] at ht
            have ht' : (⟨tk, tf, te, top⟩ : Tk) = t := by simpa using ht
            subst ht'
            exact ⟨h3, h4, h5, h6⟩
        · exact (Frm.setCell (p := fun k => k = z) (Frm.setCell (p := fun k => k = z) (Frm.setCell (p := fun k => k = z) (Frm.setCell (p := fun k => k = z) HF.out _ (.inl rfl) _) _ (.inl rfl) _) _ (.inl rfl) _) _ (.inl rfl) _).alloc _
      case measure => simp [intOf]; omega
    · have q1 : ¬ (i : Int) < (ni : Int) := by omega
      have HK := Lib.hid kz'
      clear hcs hsz' hF kz'
      go_wp2
      go_ret
      have hB1 := HB.out.trans (HF.out.below HB.out.size (fun k hk => by have e : k = z := hk; have := HZ.out; omega))
      refine ⟨z, ni, rfl, ⟨by rw [List.length_map]; exact HLN.out, fun j t hj => ?_⟩, by have := HZ.out; omega, hB1, Nat.le_refl _⟩
      have hjn : j < ni := by have := (List.getElem?_eq_some_iff.1 hj).1; rw [List.length_map] at this; have := HLN.out; omega
      obtain ⟨e0, e1, e2, e3⟩ := HCS.out j t (by omega) hj
      refine ⟨z, 0, rfl, HK.out.lt, ?_, ?_, ?_, ?_⟩
      · rw [Nat.zero_add]; exact (HK.out.cell _).trans e0
      · rw [Nat.zero_add]; exact (HK.out.cell _).trans e1
      · rw [Nat.zero_add]; exact (HK.out.cell _).trans e2
      · rw [Nat.zero_add]; exact (HK.out.cell _).trans e3
end
end Go.Proofs.YtdjcidackkogjaaGreatDoor

/- What Closing of layer 6 (modes) returns: what shuts all that is open. Condition: texts of at most 900 bytes. -/
import Derived.Test.YtiklnlkakhghdaaGreatDoorMdCm
import Derived.Test.YtiklnlkakhghdaaGreatDoorMdFr
import Derived.Test.YtiklnlkakhghdaaGreatDoorMdL
import Derived.Shelf.Strings.BuilderK
namespace Go.Proofs.YtiklnlkakhghdaaGreatDoor
open Go.RowKit Go.Shelf
set_option linter.unusedVariables false
attribute [local go_sem] Oper.semAt_some

/-- A strings.Builder of the call's own, which may have been read. -/
def BlF (B : Nat) (x : List Value) (w : World) : Prop := Lib.IsBuilderF 109 5 B B x w
theorem blf_string (B : Nat) (x : List Value) (s : ByteArray) (w : World) (h : BlF B x w) (hl : x.length ≤ 1000000) (hs : s.size ≤ 1000000) (hB : B ≤ w.heap.size) :
    Calls Tryz.prog 74 #[.pointer (some ⟨B, 0, none⟩), .string s] w fun e w' => e = .returned (.tuple #[.int .i64 s.size, .nilIface]) ∧ BlF B (x ++ Lib.strCells s) w' ∧ Below B w w' ∧ Lib.OthersKept 5 (some B) w w' :=
  (Any.Builder_WriteString_k laidN166 laidX B B x s w h (by omega) hB).mono fun _ _ ⟨he, hb, hw, ho⟩ => ⟨he, .inr hb, hw, ho⟩
theorem blf_block {B : Nat} {x : List Value} {w : World} (h : BlF B x w) : ∃ p v, w.heap[B]? = some (.cells #[p, v] 109 (0, 0)) := by
  rcases h with ⟨_, v, hb, _⟩ | ⟨_, v, hb, _⟩
  · exact ⟨_, v, hb⟩
  · exact ⟨_, v, hb⟩
theorem keeps_of_others {B C : Nat} {x : List Value} {w w' : World} (hb : BlF B x w) (h : Lib.OthersKept 5 (some B) w w') (hs : w.heap.size ≤ w'.heap.size) : KeepsFrom C w w' :=
  ⟨hs, fun k o _ hk ho => h k o hk (fun e => by
    obtain ⟨p, v, hp⟩ := blf_block hb
    have e' : k = B := by simpa using e
    rw [e', hp] at hk
    cases hk
    cases ho) (fun c fz e => by subst e; cases ho)⟩
theorem kept_blk {B b : Nat} {w w' : World} {cs : Array Value} {t : TypeId} (h : Blk w b cs t) (hk : Lib.OthersKept 5 (some B) w w') (hb : b ≠ B) (ht : t ≠ 5) : w'.heap[b]? = w.heap[b]? := by
  rw [show w.heap[b]? = _ from h]
  exact hk b _ h (fun e => hb (by simpa using e)) (fun c fz e => by injection e with _ e2; exact ht e2)
theorem blf_own {β : Type} (B : Nat) (f : β → List Value) : Own (fun (s : β) W => BlF B (f s) W) := by
  intro s X Y row h hg hr
  have kb : ∀ (v p : Value) , X.heap[B]? = some (.cells #[p, v] 109 (0, 0)) → Y.heap[B]? = some (.cells #[p, v] 109 (0, 0)) := fun v p hp =>
    (hg.block B (Array.getElem?_eq_some_iff.1 hp).1 (fun e => by
      obtain ⟨o, ho, hc⟩ := hr B e.symm
      rw [hp] at ho; cases ho; cases hc)).trans hp
  have kr : ∀ {v : Value} {n : Nat} {xs : List Value}, X.ownsRowF B 5 1 v n xs → Y.ownsRowF B 5 1 v n xs := by
    intro v n xs ho
    refine ho.kept hg ?_
    rcases hv : v.ownBlock with _ | g
    · exact .inl rfl
    · refine .inr fun e => ?_
      obtain ⟨o, hob, hc⟩ := hr g e.symm
      rcases ho.2 with ⟨h1, _⟩ | ⟨g', cap, cur, fz, h1, _, h2, _⟩
      · rw [h1] at hv; cases hv
      · rw [h1] at hv
        have e' : g' = g := by simpa [Value.ownBlock] using hv
        subst e'
        rw [h2] at hob; cases hob; cases hc
  rcases h with ⟨h0, v, h1, h2, h3⟩ | ⟨h0, v, h1, h2, h3⟩
  · exact .inl ⟨h0, v, kb _ _ h1, kr h2, h3⟩
  · exact .inr ⟨h0, v, kb _ _ h1, kr h2, h3⟩
theorem blk_own {β : Type} (b : Nat) (cs : Array Value) (t : TypeId) : Own (fun (_ : β) W => Blk W b cs t) := by
  intro s X Y row h hg hr
  exact h.grown hg (fun e => by
    obtain ⟨o, ho, hc⟩ := hr b e.symm
    rw [show X.heap[b]? = _ from h] at ho; cases ho; cases hc)
theorem fw_own {β : Type} (g cap : Nat) (l : List Fr) : Own (fun (_ : β) W => Fw W g cap l) := by
  rintro s X Y row ⟨cs, h1, h2⟩ hg hr
  exact ⟨cs, blk_own (β := Unit) g cs _ () X Y row h1 hg hr, h2⟩
theorem closeL_snoc (pre : List Fr) (x : Fr) : closeL (pre ++ [x]) = closeL pre ++ closeB x.1 := by simp [closeL]
theorem strCells_close (l k : List UInt8) : Lib.strCells (closeT (l ++ k)) = Lib.strCells (closeT l) ++ Lib.strCells (closeT k) := by simp [Lib.strCells, closeT]

set_option maxRecDepth 100000 in
set_option maxHeartbeats 8000000 in
theorem closing_in (n : Nat) (hn : 3 ≤ n) (s : ByteArray) (hs : s.size ≤ 900) (w : World) :
    CallsIn Fence.wide n Tryz.prog 53 #[.string s] w fun e W' => e = .returned (.string (closeT (closeL (runK s s.size).st))) ∧ Below w.heap.size w W' := by
  have h1 : 1 ≤ n := by omega
  have hro : Fence.wide.round = none := rfl
  have h50 : Fence.wide.fn 98 := trivial
  have f11 : Fence.wide.fn 72 := trivial
  have f34 : Fence.wide.fn 73 := trivial
  have f36 : Fence.wide.fn 75 := trivial
  have f35 : Fence.wide.fn 74 := trivial
  have f37 : Fence.wide.fn 76 := trivial
  have hrun := (callsIn_wide (n := n - 1)).2 (run_any w s (by omega))
  have hlen := runK_len s s.size
  obtain ⟨x, hx⟩ : ∃ x, runK s s.size = x := ⟨_, rfl⟩
  rw [hx] at hlen hrun ⊢
  clear hx
  refine callsIn_of_wp_marks Tryz.func53 rfl trivial ?_ hro
  simp only [Tryz.ntmps53, List.size_toArray, List.length_cons, List.length_nil, Nat.reduceAdd, Nat.reduceSub, Array.replicate_succ, Array.replicate_zero, List.push_toArray, List.append_toArray, List.nil_append, List.cons_append]
  gi_wp2_with fail
  refine hrun.mono ?_
  rintro e w1 ⟨⟨v, rfl, hRs⟩, hb1⟩
  obtain ⟨g, capl, hv, hg, hF⟩ := hRs
  rw [List.length_reverse] at hv
  subst hv
  gi_wp2_with fail
  refine (back_in (n - 1) _ _ _ _).mono ?_
  rintro e w2 ⟨rfl, rfl⟩
  gi_wp2
  have hgl := hF.lt
  have hs1 := hb1.size
  have bB : BlF w1.heap.size [] ((w1.alloc (.cells #[.pointer none, .slice none 0 0] 109)).alloc (.cells #[.slice (some ⟨g, 0, none⟩) x.st.length capl] 104)) :=
    blf_own (β := Unit) w1.heap.size (fun _ => []) () _ _ none (Lib.IsBuilderF.of (Lib.fresh_isBuilder _ _ _)) (World.grownBy_alloc _ _ none) (fun r e => by cases e)
  have bS := blk2 w1 (.cells #[.pointer none, .slice none 0 0] 109) #[.slice (some ⟨g, 0, none⟩) x.st.length capl] 104
  have bF := hF.frm (Frm.of_below (p := fun _ => False) (below2 w1 (.cells #[.pointer none, .slice none 0 0] 109) (.cells #[.slice (some ⟨g, 0, none⟩) x.st.length capl] 104))) (fun h => h)
  have hB0 : Below w.heap.size w ((w1.alloc (.cells #[.pointer none, .slice none 0 0] 109)).alloc (.cells #[.slice (some ⟨g, 0, none⟩) x.st.length capl] 104)) := hb1.trans ((below2 w1 _ _).mono hs1)
  obtain ⟨W0, hW0⟩ : ∃ W0, (w1.alloc (.cells #[.pointer none, .slice none 0 0] 109)).alloc (.cells #[.slice (some ⟨g, 0, none⟩) x.st.length capl] 104) = W0 := ⟨_, rfl⟩
  have hsz : W0.heap.size = w1.heap.size + 2 := by rw [← hW0]; exact size2 _ _ _
  rw [hW0] at bB bS bF hB0 ⊢
  clear hW0
  obtain ⟨B, hB⟩ : ∃ B, w1.heap.size = B := ⟨_, rfl⟩
  rw [hB] at bB bS hsz hgl hs1 ⊢
  refine wpIn_rangeFunc_ownH hro h1 (gf := 98) (lb := #[.pointer (some ⟨B + 1, 0, none⟩)]) rfl h50 (enters_of Tryz.func98 (by kernel_rfl) rfl)
    (back_stops (n - 1) (by omega) (B + 1) g capl x.st (by omega) W0 bS bF) keep2_t (keep2_b (by omega) (by omega)) (Below.refl _ _) (fun _ => rfl)
    (fun pre W => BlF B (Lib.strCells (closeT (closeL pre))) W ∧ Blk W (B + 1) #[.slice (some ⟨g, 0, none⟩) x.st.length capl] 104 ∧ Fw W g capl x.st.reverse ∧ Below w.heap.size w W)
    (fun _ _ _ => False)
    (OwnFrom.and (Own.from (blf_own B (fun (pre : List Fr) => Lib.strCells (closeT (closeL pre)))) _) (OwnFrom.and (Own.from (blk_own _ _ _) _) (OwnFrom.and (Own.from (fw_own _ _ _) _) (ownFrom_below (Nat.le_refl _) (by omega)))))
    (fun _ _ _ _ _ hs _ _ => hs)
    ⟨bB, bS, bF, hB0⟩
    (fun y a' W => ∃ Bx, B + 1 < Bx ∧ W.heap[Bx]? = some (.cells #[.int .i64 (y.1 : Int), .int .i64 (y.2 : Int)] 114 (0, 0)) ∧ a' = { tmps := #[.string s, undef, .string ⟨#[]⟩, .slice (some ⟨g, 0, none⟩) x.st.length capl, .bool x.fresh, .pointer (some ⟨B, 0, none⟩), .pointer (some ⟨Bx, 0, none⟩), .tuple #[.slice (some ⟨g, 0, none⟩) x.st.length capl, .bool x.fresh], .string s, .tuple #[.slice (some ⟨g, 0, none⟩) x.st.length capl, .bool x.fresh], .slice (some ⟨g, 0, none⟩) x.st.length capl, .bool x.fresh, .slice (some ⟨g, 0, none⟩) x.st.length capl, .func (.func 98) #[] #[.pointer (some ⟨B + 1, 0, none⟩)], .agg #[.int .i64 (y.1 : Int), .int .i64 (y.2 : Int)], undef, undef, undef, undef, undef], defers := [] })
    (fun y a' _ X Y row hs hg hr => by
      obtain ⟨Bx, h1, h2, h3⟩ := hs
      refine ⟨Bx, h1, (hg.block Bx (Array.getElem?_eq_some_iff.1 h2).1 (fun e => ?_)).trans h2, h3⟩
      obtain ⟨o, ho, hoc⟩ := (hr Bx e.symm).2
      rw [h2] at ho; cases ho; cases hoc)
    ?assign ?body ?done ?stop
  case assign =>
    rintro l pre y W K ⟨hb, hS, hf, hBw⟩ hK
    gi_wp2
    have hWB := hS.lt
    refine hK _ _ ((KeepsOthers.alloc _ _).from _) ⟨(hS.alloc _).trans hS.symm, ?_⟩ ⟨blf_own (β := Unit) B (fun _ => Lib.strCells (closeT (closeL pre))) () _ _ none hb (World.grownBy_alloc _ _ none) (fun r e => by cases e), hS.alloc _, hf.frm ((Frm.refl (fun _ => False) W).alloc _) (fun h => h), hBw.alloc hBw.size _⟩ ⟨W.heap.size, by omega, World.alloc_heap_new W _, rfl⟩
    exact Below.heap_alloc W _ g hf.lt
  case body =>
    rintro l pre y a' W hl ⟨r, hr⟩ ⟨hb, hS, hf, hBw⟩ ⟨Bx, hBx, bX, rfl⟩ hlt
    have x0 := cell_of_row W Bx 0 _ _ _ bX
    simp at x0
    have hWB := hS.lt
    have hcl := closeL_len pre
    have hc2 := closeB_len y.1
    have hsh := shut_m W y.1
    have hws := blf_string B _ (closeT (closeB y.1)) W hb (by rw [Lib.strCells_length, closeT_size]; omega) (by rw [closeT_size]; omega) (by omega)
    obtain ⟨c, hc⟩ : ∃ c, closeT (closeB y.1) = c := ⟨_, rfl⟩
    rw [hc] at hsh hws
    have HC := Lib.hid hc
    clear hc
    gi_wp2_with fail
    refine ⟨fun _ => by omega, ((callsIn_wide.2 hsh).inRound l).mono ?_⟩
    rintro e w2 ⟨rfl, rfl⟩
    gi_wp2_with fail
    refine ⟨fun _ => by omega, ((callsIn_wide.2 hws).inRound l).mono ?_⟩
    rintro e w3 ⟨rfl, hb3, hB3, ho3⟩
    gi_wp2
    have k1 := kept_blk hS ho3 (by omega) (by decide)
    obtain ⟨cs, hg1, hg2⟩ := hf
    have k2 := kept_blk hg1 ho3 (by omega) (by decide)
    refine ⟨keeps_of_others hb ho3 hB3.size, ⟨k1, k2⟩, ?_, Eq.trans k1 hS, ⟨cs, Eq.trans k2 hg1, hg2⟩, hBw.trans (hB3.mono (by omega))⟩
    rw [closeL_snoc, strCells_close, HC.out]
    exact hb3
  case done =>
    rintro D ys W hD rfl ⟨hb, hS, hf, hBw⟩ hK
    have hWB := hS.lt
    have hstr := Tryz.Builder_String_any_k B B (closeT (closeL x.st)).data.toList W hb (by omega)
    gi_wp2_with fail
    refine (callsIn_wide.2 hstr).mono ?_
    rintro e W2 ⟨rfl, hb2, hB2, ho2⟩
    have hK2 := ho2 D _ hK (fun e => by injection e with e'; omega) (fun c fz e => by cases e)
    gi_wp2
    refine ⟨by simp, .inl ⟨_, _, rfl, run_takeDeferred hK2, ?_⟩⟩
    exact ⟨_, results_tmp rfl _ _ _, rfl, (hBw.trans (hB2.mono (by omega))).trans (belowK_b (w := w) (Nat.le_refl _) W2 D _ _ (by omega) hK2 rfl rfl)⟩
  case stop =>
    rintro D c pre W _ _ h _
    exact h.elim
theorem closing_any (s : ByteArray) (hs : s.size ≤ 900) (w : World) :
    Calls Tryz.prog 53 #[.string s] w fun e W' => e = .returned (.string (closeT (closeL (runK s s.size).st))) ∧ Below w.heap.size w W' :=
  (callsIn_wide (n := 3)).1 (closing_in 3 (Nat.le_refl _) s hs w)
end Go.Proofs.YtiklnlkakhghdaaGreatDoor

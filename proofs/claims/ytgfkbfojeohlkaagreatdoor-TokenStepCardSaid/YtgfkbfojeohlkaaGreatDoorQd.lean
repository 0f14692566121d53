/- What push of the document's own machine returns. Condition: stacks of at most a hundred thousand frames.
The document's own machine as a value: a stack's letters, its places, and what push, pop, turn and mark make of them. Condition: stacks of at most a hundred thousand frames. -/
import Derived.Test.YtgfkbfojeohlkaaGreatDoorMdX
import Derived.Deep.RegionHeldLaw
namespace Go.Proofs.YtgfkbfojeohlkaaGreatDoor
open Go.RowKit
set_option linter.unusedVariables false

section
variable (w : World)
set_option maxHeartbeats 4000000 in
theorem push_any (l : List Fr) (m p g cap : Nat) (fr : Bool) (c : ByteArray) (hc : Hid (c = ⟨#[ltB m]⟩)) (hP : Pw w g cap l) (hl : l.length ≤ 100000) (h0 : 0 < l.length) :
    Calls Tryz.prog 127 #[.agg #[.string (ltS l), .slice (some ⟨g, 0, none⟩) l.length cap, .bool fr], .string c, .int .i64 (p : Int)] w fun e w' => (∃ g' cap', e = .returned (.agg #[.string (ltS (l ++ [(m, p)])), .slice (some ⟨g', 0, none⟩) (l.length + 1) cap', .bool fr]) ∧ Pw w' g' cap' (l ++ [(m, p)]) ∧ w.heap.size ≤ g') ∧ Below w.heap.size w w' := by
  have hsz := ltS_size l
  have hcs : c.size = 1 := by rw [hc.out]; rfl
  rw [ltS_snoc, ← hc.out]
  obtain ⟨S, hS⟩ : ∃ S, ltS l = S := ⟨_, rfl⟩
  rw [hS] at hsz ⊢
  have hnb : ¬ S.size + c.size > 9223372036854775807 := by omega
  obtain ⟨n, hn⟩ : ∃ n, l.length = n := ⟨_, rfl⟩
  have hR : ∀ X, Below w.heap.size w X → X.ownsRow 0 3 1 (.slice (some ⟨g, 0, none⟩) n cap) n (plS l) := fun X hX => by rw [← hn]; exact (hP.below hX).owns
  rw [hn] at hl h0 hsz ⊢
  have HN := Lib.hid hn
  have HS := Lib.hid hsz
  clear hS hsz hn hcs
  go_enter Tryz.func127, Tryz.ntmps127
  go_wp2
  have hA3 : ∀ A B C s t, Blk ((((w.alloc (.cells A s)).alloc (.cells B t)).alloc C).drew) w.heap.size A s := fun A B C s t => (((Blk.new w A s).alloc _).alloc C).drew
  have hB3 : ∀ A B C s t, Blk ((((w.alloc (.cells A s)).alloc (.cells B t)).alloc C).drew) (w.heap.size + 1) B t := fun A B C s t => by
    have := Blk.new (w.alloc (.cells A s)) B t
    rw [World.size_alloc] at this
    exact (this.alloc C).drew
  have hC3 : ∀ A B C u, Blk ((((w.alloc A).alloc B).alloc (.cells C u)).drew) (w.heap.size + 1 + 1) C u := fun A B C u => by
    have := Blk.new ((w.alloc A).alloc B) C u
    rw [World.size_alloc, World.size_alloc] at this
    exact this.drew
  have hW3 : ∀ A B C, Below w.heap.size w ((((w.alloc A).alloc B).alloc C).drew) := fun A B C => ((((Below.refl w.heap.size w).alloc (Nat.le_refl _) _).alloc (by simp) _).alloc (by simp; omega) _).drew
  have hS3 : ∀ A B C, ((((w.alloc A).alloc B).alloc C).drew).heap.size = w.heap.size + 3 := fun A B C => by
    show (((w.alloc A).alloc B).alloc C).heap.size = _
    rw [World.size_alloc, World.size_alloc, World.size_alloc]
  have hA4 : ∀ A B C D s t, Blk (((((w.alloc (.cells A s)).alloc (.cells B t)).alloc C).alloc D).drew) w.heap.size A s := fun A B C D s t => ((((Blk.new w A s).alloc _).alloc C).alloc D).drew
  have hB4 : ∀ A B C D s t, Blk (((((w.alloc (.cells A s)).alloc (.cells B t)).alloc C).alloc D).drew) (w.heap.size + 1) B t := fun A B C D s t => ((hB3 A B C s t).alloc D)
  have hC4 : ∀ A B C D u, Blk (((((w.alloc A).alloc B).alloc (.cells C u)).alloc D).drew) (w.heap.size + 1 + 1) C u := fun A B C D u => ((hC3 A B C u).alloc D)
  have hD4 : ∀ A B C D u, Blk (((((w.alloc A).alloc B).alloc C).alloc (.cells D u)).drew) (w.heap.size + 1 + 1 + 1) D u := fun A B C D u => by
    have := Blk.new (((w.alloc A).alloc B).alloc C) D u
    rw [World.size_alloc, World.size_alloc, World.size_alloc] at this
    exact this.drew
  have hW4 : ∀ A B C D, Below w.heap.size w (((((w.alloc A).alloc B).alloc C).alloc D).drew) := fun A B C D => (((((Below.refl w.heap.size w).alloc (Nat.le_refl _) _).alloc (by simp) _).alloc (by simp; omega) _).alloc (by simp; omega) _).drew
  have hS4 : ∀ A B C D, (((((w.alloc A).alloc B).alloc C).alloc D).drew).heap.size = w.heap.size + 4 := fun A B C D => by
    show ((((w.alloc A).alloc B).alloc C).alloc D).heap.size = _
    rw [World.size_alloc, World.size_alloc, World.size_alloc, World.size_alloc]
  go_region_held_law (fun w' => w'.cell? ⟨w.heap.size, 0, none⟩ = some (.string S) ∧ w'.cell? ⟨w.heap.size, 1, none⟩ = some (.slice (some ⟨g, 0, none⟩) n cap) ∧ w'.cell? ⟨w.heap.size, 2, none⟩ = some (.bool fr)) (first | exact hkp1 | exact hkp1a _ | exact hkp2 | go_keep) (first
    | (refine step_app_ints (by rfl) _ _ (by rfl) (.slice (some ⟨w.heap.size + 1 + 1, 0, none⟩) 0 0) 0 [] (by rfl) ⟨rfl, .inr ⟨_, 0, _, rfl, Nat.zero_le _, (hC3 _ _ _ _), Nat.le_refl _, by unfold maxLen; omega, rfl, rfl⟩⟩ g n cap (plS l) (by rfl) (hR _ (hW3 _ _ _)) (plS_one l) (by omega) h0 n (Nat.zero_add n) ?_; intro g1 c1 w1 hown1 hgr1 hg1; have hA1 := (hA3 #[.string S, .slice (some ⟨g, 0, none⟩) n cap, .bool fr] #[.string ⟨#[]⟩, .slice none 0 0, .bool false] (.cells #[] 3) 117 117).grown hgr1 (by simp [Value.ownBlock] <;> omega); have hB1 := (hB3 #[.string S, .slice (some ⟨g, 0, none⟩) n cap, .bool fr] #[.string ⟨#[]⟩, .slice none 0 0, .bool false] (.cells #[] 3) 117 117).grown hgr1 (by simp [Value.ownBlock] <;> omega); have hkp1 := (And.intro (hA1.cell 0) (And.intro (hA1.cell 1) (hA1.cell 2))); have hkp1a := (fun o => And.intro ((hA1.alloc o).cell 0) (And.intro ((hA1.alloc o).cell 1) ((hA1.alloc o).cell 2))); have hL1 := (hW3 _ _ _ : Below w.heap.size w _).grown hgr1 (by rw [hS3]; omega) (by intro k hk; simp [Value.ownBlock] at hk; omega); have hsz1 := hgr1.size; rw [hS3] at hsz1 hg1; have hg1q : g1 = w.heap.size + 1 + 1 ∨ g1 = w.heap.size + 3 := (hg1.imp (fun h => by simpa [Value.ownBlock] using h.symm) id); clear hg1; have hg1r : w.heap.size + 2 ≤ g1 := (by omega); have hn1 : ¬ w1.heap.size = w.heap.size := (by omega); have hn2 : ¬ w1.heap.size = w.heap.size + 1 := (by omega))
    | (refine step_app_ints (by rfl) _ _ (by rfl) (.slice (some ⟨w.heap.size + 1 + 1, 0, none⟩) 0 0) 0 [] (by rfl) ⟨rfl, .inr ⟨_, 0, _, rfl, Nat.zero_le _, (hC4 _ _ _ _ _), Nat.le_refl _, by unfold maxLen; omega, rfl, rfl⟩⟩ g n cap (plS l) (by rfl) (hR _ (hW4 _ _ _ _)) (plS_one l) (by omega) h0 n (Nat.zero_add n) ?_; intro g1 c1 w1 hown1 hgr1 hg1; have hA1 := (hA4 #[.string S, .slice (some ⟨g, 0, none⟩) n cap, .bool fr] #[.string ⟨#[]⟩, .slice none 0 0, .bool false] (.cells #[] 3) (.cells #[.int .i64 (p : Int)] 3) 117 117).grown hgr1 (by simp [Value.ownBlock] <;> omega); have hB1 := (hB4 #[.string S, .slice (some ⟨g, 0, none⟩) n cap, .bool fr] #[.string ⟨#[]⟩, .slice none 0 0, .bool false] (.cells #[] 3) (.cells #[.int .i64 (p : Int)] 3) 117 117).grown hgr1 (by simp [Value.ownBlock] <;> omega); have hP1 := (hD4 (.cells #[.string S, .slice (some ⟨g, 0, none⟩) n cap, .bool fr] 117) (.cells #[.string ⟨#[]⟩, .slice none 0 0, .bool false] 117) (.cells #[] 3) #[.int .i64 (p : Int)] 3).grown hgr1 (by simp [Value.ownBlock] <;> omega); have hkp1 := (And.intro (hA1.cell 0) (And.intro (hA1.cell 1) (hA1.cell 2))); have hkp1a := (fun o => And.intro ((hA1.alloc o).cell 0) (And.intro ((hA1.alloc o).cell 1) ((hA1.alloc o).cell 2))); have hL1 := (hW4 _ _ _ _ : Below w.heap.size w _).grown hgr1 (by rw [hS4]; omega) (by intro k hk; simp [Value.ownBlock] at hk; omega); have hsz1 := hgr1.size; rw [hS4] at hsz1 hg1; have hg1q : g1 = w.heap.size + 1 + 1 ∨ g1 = w.heap.size + 4 := (hg1.imp (fun h => by simpa [Value.ownBlock] using h.symm) id); clear hg1; have hg1r : w.heap.size + 2 ≤ g1 := (by omega); have hn1 : ¬ w1.heap.size = w.heap.size := (by omega); have hn2 : ¬ w1.heap.size = w.heap.size + 1 := (by omega))
    | (refine step_app_ints (by rfl) _ _ (by rfl) (.slice (some ⟨w.heap.size + 1 + 1 + 1, 0, none⟩) 0 0) 0 [] (by rfl) ⟨rfl, .inr ⟨_, 0, _, rfl, Nat.zero_le _, (hD4 _ _ _ _ _), Nat.le_refl _, by unfold maxLen; omega, rfl, rfl⟩⟩ g n cap (plS l) (by rfl) (hR _ (hW4 _ _ _ _)) (plS_one l) (by omega) h0 n (Nat.zero_add n) ?_; intro g1 c1 w1 hown1 hgr1 hg1; have hA1 := (hA4 #[.string S, .slice (some ⟨g, 0, none⟩) n cap, .bool fr] #[.string ⟨#[]⟩, .slice none 0 0, .bool false] (.cells #[.int .i64 (p : Int)] 3) (.cells #[] 3) 117 117).grown hgr1 (by simp [Value.ownBlock] <;> omega); have hB1 := (hB4 #[.string S, .slice (some ⟨g, 0, none⟩) n cap, .bool fr] #[.string ⟨#[]⟩, .slice none 0 0, .bool false] (.cells #[.int .i64 (p : Int)] 3) (.cells #[] 3) 117 117).grown hgr1 (by simp [Value.ownBlock] <;> omega); have hP1 := (hC4 (.cells #[.string S, .slice (some ⟨g, 0, none⟩) n cap, .bool fr] 117) (.cells #[.string ⟨#[]⟩, .slice none 0 0, .bool false] 117) #[.int .i64 (p : Int)] (.cells #[] 3) 3).grown hgr1 (by simp [Value.ownBlock] <;> omega); have hkp1 := (And.intro (hA1.cell 0) (And.intro (hA1.cell 1) (hA1.cell 2))); have hkp1a := (fun o => And.intro ((hA1.alloc o).cell 0) (And.intro ((hA1.alloc o).cell 1) ((hA1.alloc o).cell 2))); have hL1 := (hW4 _ _ _ _ : Below w.heap.size w _).grown hgr1 (by rw [hS4]; omega) (by intro k hk; simp [Value.ownBlock] at hk; omega); have hsz1 := hgr1.size; rw [hS4] at hsz1 hg1; have hg1q : g1 = w.heap.size + 1 + 1 + 1 ∨ g1 = w.heap.size + 4 := (hg1.imp (fun h => by simpa [Value.ownBlock] using h.symm) id); clear hg1; have hg1r : w.heap.size + 2 ≤ g1 := (by omega); have hn1 : ¬ w1.heap.size = w.heap.size := (by omega); have hn2 : ¬ w1.heap.size = w.heap.size + 1 := (by omega))
    | (refine step_app_ints (by rfl) _ _ (by rfl) (.slice (some ⟨g1, 0, none⟩) n c1) n (plS l) (by rfl) (own_below hown1 ((Below.refl w1.heap.size w1).alloc (Nat.le_refl _) _)) w1.heap.size 1 1 [.int .i64 (p : Int)] (by rfl) ⟨rfl, .inr ⟨w1.heap.size, 1, _, rfl, Nat.zero_le _, Blk.new w1 _ _, Nat.le_refl _, by unfold maxLen; omega, rfl, rfl⟩⟩ (by intro u hu; simp at hu; subst hu; rfl) (by omega) (by omega) (n + 1) rfl ?_; intro g2 c2 w2 hown2 hgr2 hg2; have hg2r : w.heap.size + 2 ≤ g2 := (hg2.elim (fun h => by simp [Value.ownBlock] at h; omega) (fun h => by rw [h]; first | (rw [World.size_alloc]; omega) | omega)); have hA2 := (hA1.alloc (.cells #[.int .i64 (p : Int)] 3)).grown hgr2 (by simp [Value.ownBlock] <;> omega); have hB2 := (hB1.alloc (.cells #[.int .i64 (p : Int)] 3)).grown hgr2 (by simp [Value.ownBlock] <;> omega); have hL2 := (hL1.alloc (by omega) (.cells #[.int .i64 (p : Int)] 3)).grown hgr2 (by simp; omega) (by intro k hk; simp [Value.ownBlock] at hk; omega); have hkp2 := (And.intro (hA2.cell 0) (And.intro (hA2.cell 1) (hA2.cell 2))); have r0 : w2.cell? ⟨w.heap.size + 1, 0, none⟩ = some (.string ⟨#[]⟩) := hB2.cell 0; have r1 : w2.cell? ⟨w.heap.size + 1, 1, none⟩ = some (.slice none 0 0) := hB2.cell 1; have r2 : w2.cell? ⟨w.heap.size + 1, 2, none⟩ = some (.bool false) := hB2.cell 2; have rf0 := hB2.frozen 0; have rf1 := hB2.frozen 1; have rf2 := hB2.frozen 2)
    | (refine step_app_ints (by rfl) _ _ (by rfl) (.slice (some ⟨g1, 0, none⟩) n c1) n (plS l) (by rfl) hown1 _ 1 1 [.int .i64 (p : Int)] (by rfl) ⟨rfl, .inr ⟨_, 1, _, rfl, Nat.zero_le _, hP1, Nat.le_refl _, by unfold maxLen; omega, rfl, rfl⟩⟩ (by intro u hu; simp at hu; subst hu; rfl) (by omega) (by omega) (n + 1) rfl ?_; intro g2 c2 w2 hown2 hgr2 hg2; have hg2r : w.heap.size + 2 ≤ g2 := (hg2.elim (fun h => by simp [Value.ownBlock] at h; omega) (fun h => by rw [h]; first | (rw [World.size_alloc]; omega) | omega)); have hA2 := (hA1).grown hgr2 (by simp [Value.ownBlock] <;> omega); have hB2 := (hB1).grown hgr2 (by simp [Value.ownBlock] <;> omega); have hL2 := hL1.grown hgr2 (by omega) (by intro k hk; simp [Value.ownBlock] at hk; omega); have hkp2 := (And.intro (hA2.cell 0) (And.intro (hA2.cell 1) (hA2.cell 2))); have r0 : w2.cell? ⟨w.heap.size + 1, 0, none⟩ = some (.string ⟨#[]⟩) := hB2.cell 0; have r1 : w2.cell? ⟨w.heap.size + 1, 1, none⟩ = some (.slice none 0 0) := hB2.cell 1; have r2 : w2.cell? ⟨w.heap.size + 1, 2, none⟩ = some (.bool false) := hB2.cell 2; have rf0 := hB2.frozen 0; have rf1 := hB2.frozen 1; have rf2 := hB2.frozen 2))
  all_goals
    go_wp2
    refine bodyPost_ret (v := .agg #[.string (S ++ c), .slice (some ⟨g2, 0, none⟩) (n + 1) c2, .bool fr]) (by simp [results, Tryz.results127, go_sem, *]) rfl ?_
    have hq : Pw w2 g2 c2 (l ++ [(m, p)]) := Pw.of_owns (by rw [plS_snoc]; exact hown2) (by simp [HN.out])
    refine ⟨⟨g2, c2, rfl, hq.frm (((Frm.put (Frm.refl _ w2) 0 _).put 1 _).put 2 _) (by show ¬ g2 = w.heap.size + 1; omega), by omega⟩, ?_⟩
    exact ((hL2.setCell (p := ⟨w.heap.size + 1, 0, none⟩) (by simp) _).setCell (p := ⟨w.heap.size + 1, 1, none⟩) (by simp) _).setCell (p := ⟨w.heap.size + 1, 2, none⟩) (by simp) _
end
end Go.Proofs.YtgfkbfojeohlkaaGreatDoor
namespace Go.Proofs.YtgfkbfojeohlkaaGreatDoor
open Go.RowKit
set_option linter.unusedVariables false

theorem below2 (w : World) (o o' : Obj) : Below w.heap.size w ((w.alloc o).alloc o') := ((Below.refl w.heap.size w).alloc (Nat.le_refl _) o).alloc (by simp) o'
theorem blk2 (w : World) (o : Obj) (cs : Array Value) (t : TypeId) : Blk ((w.alloc o).alloc (.cells cs t)) (w.heap.size + 1) cs t := by
  have := Blk.new (w.alloc o) cs t
  rwa [World.size_alloc] at this
theorem size2 (w : World) (o o' : Obj) : ((w.alloc o).alloc o').heap.size = w.heap.size + 2 := by rw [World.size_alloc, World.size_alloc]

structure Rv (w : World) (st : List Fr) (S : ByteArray) (g n cap : Nat) : Prop where
  s : S = ltS st.reverse
  n : n = st.length
  p : Pw w g cap st.reverse
theorem Rv.below {w w' : World} {st : List Fr} {S : ByteArray} {g n cap : Nat} (h : Rv w st S g n cap) (hb : Below w.heap.size w w') : Rv w' st S g n cap := ⟨h.s, h.n, h.p.below hb⟩
theorem Rv.frm {p : Nat → Prop} {w w' : World} {st : List Fr} {S : ByteArray} {g n cap : Nat} (h : Rv w st S g n cap) (hf : Frm p w w') (hp : ¬ p g) : Rv w' st S g n cap := ⟨h.s, h.n, h.p.frm hf hp⟩
theorem Rv.lt {w : World} {st : List Fr} {S : ByteArray} {g n cap : Nat} (h : Rv w st S g n cap) : g < w.heap.size := h.p.lt
theorem Rv.size {w : World} {st : List Fr} {S : ByteArray} {g n cap : Nat} (h : Rv w st S g n cap) : S.size = st.length := by rw [h.s, ltS_size, List.length_reverse]
theorem Rv.top {w : World} {m f : Nat} {r : List Fr} {S : ByteArray} {g n cap : Nat} (h : Rv w ((m, f) :: r) S g n cap) : bt S r.length = ltB m := by
  rw [h.s]
  exact ltS_bt (x := (m, f)) (by simp)
theorem Rv.next {w : World} {m f m2 f2 : Nat} {r : List Fr} {S : ByteArray} {g n cap : Nat} (h : Rv w ((m, f) :: (m2, f2) :: r) S g n cap) : bt S r.length = ltB m2 := by
  rw [h.s]
  exact ltS_bt (x := (m2, f2)) (by simp)
def RvTo (w : World) (g0 : Nat) (st : List Fr) (fr : Bool) (e : Ending) (w' : World) : Prop :=
  ∃ S g n cap, e = .returned (.agg #[.string S, .slice (some ⟨g, 0, none⟩) n cap, .bool fr]) ∧ Rv w' st S g n cap ∧ Below w.heap.size w w' ∧ (g = g0 ∨ w.heap.size ≤ g)

section
variable (w : World) (st : List Fr) (S : ByteArray) (g n cap : Nat) (fr : Bool)
theorem rv_push (m p : Nat) (c : ByteArray) (hc : c = ⟨#[ltB m]⟩) (hR : Rv w st S g n cap) (hl : st.length ≤ 100000) (h0 : 0 < st.length) :
    Calls Tryz.prog 127 #[.agg #[.string S, .slice (some ⟨g, 0, none⟩) n cap, .bool fr], .string c, .int .i64 (p : Int)] w (RvTo w g ((m, p) :: st) fr) := by
  have h := push_any w st.reverse m p g cap fr c (Lib.hid hc) hR.p (by simpa using hl) (by simpa using h0)
  rw [← hR.s, List.length_reverse, ← hR.n] at h
  refine h.mono ?_
  rintro e w' ⟨⟨g', cap', rfl, hP, hg⟩, hb⟩
  refine ⟨_, g', n + 1, cap', rfl, ⟨by rw [List.reverse_cons], by rw [hR.n]; rfl, by rw [List.reverse_cons]; exact hP⟩, hb, .inr hg⟩
theorem rv_pop (m f : Nat) (hR : Rv w ((m, f) :: st) S g n cap) (hl : st.length ≤ 100000) :
    Calls Tryz.prog 101 #[.agg #[.string S, .slice (some ⟨g, 0, none⟩) n cap, .bool fr]] w (RvTo w g st fr) := by
  have hp := hR.p
  rw [List.reverse_cons] at hp
  have h := pop_any w st.reverse m f g cap fr hp (by simpa using hl)
  rw [← List.reverse_cons, ← hR.s, List.length_reverse] at h
  have e : n = st.length + 1 := hR.n
  rw [← e] at h
  refine h.mono ?_
  rintro e w' ⟨rfl, hb⟩
  exact ⟨_, g, _, cap, rfl, ⟨rfl, rfl, hp.init.below hb⟩, hb, .inl rfl⟩
theorem rv_turn (m f m2 : Nat) (c : ByteArray) (hc : c = ⟨#[ltB m2]⟩) (hR : Rv w ((m, f) :: st) S g n cap) (hl : st.length ≤ 100000) :
    Calls Tryz.prog 100 #[.agg #[.string S, .slice (some ⟨g, 0, none⟩) n cap, .bool fr], .string c] w (RvTo w g ((m2, f) :: st) fr) := by
  have h := refturn_any w st.reverse m f m2 g cap fr c (Lib.hid hc) (by simpa using hl) n
  rw [← List.reverse_cons, ← List.reverse_cons, ← hR.s] at h
  refine h.mono ?_
  rintro e w' ⟨rfl, hb⟩
  refine ⟨_, g, n, cap, rfl, ⟨rfl, hR.n, ?_⟩, hb, .inl rfl⟩
  exact (hR.p.below hb).places (by simp [plS])
theorem rv_mark (f2 : Bool) (hR : Rv w st S g n cap) :
    Calls Tryz.prog 99 #[.agg #[.string S, .slice (some ⟨g, 0, none⟩) n cap, .bool fr], .bool f2] w (RvTo w g st f2) :=
  (mark_any w S g n cap fr f2).mono fun e w' ⟨he, hb⟩ => ⟨S, g, n, cap, he, hR.below hb, hb, .inl rfl⟩
theorem rv_first : Calls Tryz.prog 77 #[] w (RvTo w w.heap.size Ms.start.st true) :=
  (first_any w).mono fun e w' ⟨⟨g, cap, he, hP, hg⟩, hb⟩ => ⟨_, g, 1, cap, he, ⟨rfl, rfl, hP⟩, hb, .inr hg⟩
theorem rv_done {w w3 : World} {st : List Fr} {S : ByteArray} {g n cap g0 : Nat} {fr : Bool} (hR : Rv w3 st S g n cap) (hb : Below w.heap.size w w3) (B : Nat) (hB : w.heap.size ≤ B) (hg : g ≠ B) (hg0 : g = g0 ∨ w.heap.size ≤ g) (v0 v1 v2 : Value) :
    RvTo w g0 st fr (.returned (.agg #[.string S, .slice (some ⟨g, 0, none⟩) n cap, .bool fr])) (((w3.setCell ⟨B, 0, none⟩ v0).setCell ⟨B, 1, none⟩ v1).setCell ⟨B, 2, none⟩ v2) :=
  ⟨S, g, n, cap, rfl, hR.frm (((Frm.put (Frm.refl _ w3) 0 v0).put 1 v1).put 2 v2) hg, ((hb.setCell (p := ⟨B, 0, none⟩) hB _).setCell (p := ⟨B, 1, none⟩) hB _).setCell (p := ⟨B, 2, none⟩) hB _, hg0⟩
end
end Go.Proofs.YtgfkbfojeohlkaaGreatDoor

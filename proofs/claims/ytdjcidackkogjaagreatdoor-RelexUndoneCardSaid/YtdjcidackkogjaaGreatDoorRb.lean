/- Commands that only read, in one region whose order is drawn, within a round of a range over a function: one walk of the order in which they stand serves every order. Condition: none of the region's commands defers a call. Date: 2026-11-20.
A region whose order is drawn and that begins with commands that only read, all of which must come ahead of the rest: one walk of the reading commands in the order in which they stand, then the rest as ever. Condition: none of the reading commands defers a call. Date: 2026-11-20.
A region whose order is drawn, within a round of a range over a function, walked as outside of one. Condition: no command defers a call; it neither panics nor runs out of room. Date: 2026-11-20. -/
import Derived.Sort.BigQuietIn
import Derived.Deep.RegionHeld3
import Derived.RangeFuncCalls
namespace Go.Proofs.YtdjcidackkogjaaGreatDoor
open Go BigFrame

section
variable {F : Fence} {n : Nat} {P : Program} {ops : Array Oper} {C : World → Prop}

def plainOps (ops : Array Oper) : Bool := ops.toList.all fun o => match o.op with
  | .defer _ => false
  | _ => true
theorem plainOps_at (hp : plainOps ops = true) {i : Nat} {o : Oper} (hi : ops[i]? = some o) (ro : Option Nat) (ρ : Operand → Value) : Oper.semAt ro ρ o = execOp ρ o := by
  refine Oper.semAt_eq ro ρ o fun c hc => ?_
  have hm : o ∈ ops.toList := by
    obtain ⟨h1, h2⟩ := Array.getElem?_eq_some_iff.1 hi
    rw [← h2]
    exact Array.getElem_mem_toList h1
  have := List.all_eq_true.1 hp o hm
  simp only [hc] at this
  cases this
theorem quiet_one {o : Oper} {a : Act} {K : Act → Prop} {K' : Act → World → Prop} {Q' : Exit → Act → World → Prop} {w : World} (hs : ∀ ρ, Oper.semAt F.round ρ o = execOp ρ o) (hC : C w) (hK : ∀ a w', C w' → K a → K' a w')
    (hA : o.askedIn F P a C) (hq : o.quietIn F n P a C K) : o.wpIn F n P a w K' Q' := by
  obtain ⟨v, hv, hk⟩ := hq
  have hr := hv w hC
  refine ⟨hA w hC, ?_⟩
  rw [hs]
  unfold Oper.quietAtIn at hr
  revert hr
  cases (execOp a.eval o).run P w with
  | halt x w' => intro hr; simp only [Oper.quietUponIn] at hr
  | ok x w' =>
    intro hr
    cases x with
    | value u => simp only [Oper.quietUponIn] at hr; obtain ⟨rfl, rfl⟩ := hr; exact hK _ _ hC hk
    | skip => simp only [Oper.quietUponIn] at hr; obtain ⟨rfl, rfl⟩ := hr; exact hK _ _ hC hk
    | enter f args =>
      simp only [Oper.quietUponIn] at hr
      obtain ⟨rfl, hd, hc⟩ := hr
      refine ⟨hd, hc.mono ?_⟩
      rintro e w'' ⟨rfl, hw⟩
      exact hK _ _ hw hk
    | _ => simp only [Oper.quietUponIn] at hr
theorem quiet_any (hp : plainOps ops = true) {md : Region.Mode} {Q : Act → Prop} {Q' : Exit → Act → World → Prop} (hQ : ∀ a w, C w → Q a → Q' .normal a w) (fuel : Nat) : ∀ (listed : Array Bool) (a : Act) (w : World), C w →
    wpAnyQIn F n P md ops C Q fuel listed a → wpAnyIn F n P md ops Q' fuel listed a w := by
  induction fuel with
  | zero => exact fun _ _ _ hw h => ⟨h.1, hQ _ _ hw h.2⟩
  | succ fuel ih =>
    intro listed a w hw h
    refine ⟨fun h0 => hQ _ _ hw (h.1 h0), fun i hi => ?_⟩
    have hq := h.2 i hi
    unfold qOpIn at hq
    unfold wpOpIn
    cases ho : ops[i]? with
    | none => simp only [ho] at hq ⊢; exact ih _ _ _ hw hq
    | some o =>
      simp only [ho] at hq ⊢
      by_cases hg : Region.wanted o (yielded ops a.tmps) = true
      · simp only [hg, if_true] at hq ⊢
        exact quiet_one (fun ρ => plainOps_at hp ho _ ρ) hw (fun a' w' hw' h' => ih _ a' w' hw' h') hq.1 hq.2
      · simp only [hg] at hq ⊢
        exact ⟨hq.1 w hw, ih _ _ _ hw hq.2⟩
theorem quiet_lit {id : Nat} {Q : Exit → Act → World → Prop} {a : Act} {w : World} {l : List Oper} (hp : plainOps l.toArray = true) (hm : P.follows .mixedOrders = true) (hB : Region.lexB .any l.toArray = true)
    (h : wpQuietIn F n P l.toArray (fun w' => ∃ n, w' = w.drewN n) (fun a' => ∀ w', (∃ n, w' = w.drewN n) → Q .normal a' w') l a) : (Code.region id l.toArray true).wpIn F n P Q a w := by
  simp only [Region.lexB, Bool.and_eq_true] at hB
  refine wpIn_region_any hm (quiet_any hp (Q := fun a' => ∀ w', (∃ n, w' = w.drewN n) → Q .normal a' w') (fun _ w' hw' h => h w' hw') _ _ _ _ ⟨1, rfl⟩ ?_)
  have := wpAnyQIn_lex (F := F) (n := n) (C := fun w' => ∃ n, w' = w.drewN n) (md := .any) hB.1 l 0 (Array.replicate l.toArray.size false) a (by simp) (by simpa using hB.2) h
  simpa using this
end
end Go.Proofs.YtdjcidackkogjaaGreatDoor
namespace Go.Proofs.YtdjcidackkogjaaGreatDoor
open Go BigFrame

def depsA (A : Array Oper) (j : Nat) : List Nat := match A[j]? with
  | some o => (o.after.toList.filter (Region.binds .any)).map (·.on)
  | none => []
def gateA (A : Array Oper) : Nat → List Nat → Bool
  | 0, _ => true
  | j + 1, S => S.contains j && gateA A j (S ++ depsA A j)
def guardOk (k : Nat) (o : Option Oper) : Bool := match o.bind (·.guard) with
  | some (g, _) => decide (g < k)
  | none => true
def gatesA (k : Nat) (A : Array Oper) : Bool := (List.range A.size).all fun j =>
  if j < k then (depsA A j).all (fun x => decide (x < j)) && guardOk k A[j]? else (depsA A j).any (fun x => decide (k ≤ x)) || gateA A k (depsA A j)
def On (L : Array Bool) (j : Nat) : Prop := L.getD j false = true
def ClosedA (A : Array Oper) (k : Nat) (L : Array Bool) : Prop := ∀ j, j < k → On L j → ∀ x ∈ depsA A j, On L x
theorem gate_all {A : Array Oper} {k : Nat} {L : Array Bool} (hc : ClosedA A k L) : ∀ (j : Nat) (S : List Nat), j ≤ k → gateA A j S = true → (∀ x ∈ S, On L x) → ∀ x, x < j → On L x
  | 0, _, _, _, _, x, hx => by omega
  | j + 1, S, hj, hg, hS, x, hx => by
    simp only [gateA, Bool.and_eq_true, List.contains_iff_mem] at hg
    have hjo := hS j hg.1
    rcases Nat.lt_or_ge x j with h | h
    · refine gate_all hc j _ (by omega) hg.2 (fun y hy => ?_) x h
      rcases List.mem_append.1 hy with h1 | h1
      · exact hS y h1
      · exact hc j (by omega) hjo y h1
    · have : x = j := by omega
      rw [this]; exact hjo
theorem mem_deps {A : Array Oper} {j : Nat} {o : Oper} (ho : A[j]? = some o) {x : Nat} : x ∈ depsA A j ↔ ∃ e ∈ o.after, Region.binds .any e = true ∧ e.on = x := by
  unfold depsA
  rw [ho]
  simp only [List.mem_map, List.mem_filter, Array.mem_toList_iff, and_assoc]
theorem ready_iff {A : Array Oper} {j : Nat} {L : Array Bool} : j ∈ Region.ready .any A L ↔ L.getD j true = false ∧ j < A.size ∧ ∀ x ∈ depsA A j, On L x := by
  rw [mem_ready]
  constructor
  · rintro ⟨h0, o, ho, h⟩
    refine ⟨h0, (Array.getElem?_eq_some_iff.1 ho).1, fun x hx => ?_⟩
    obtain ⟨e, h1, h2, h3⟩ := (mem_deps ho).1 hx
    exact h3 ▸ h e h1 h2
  · rintro ⟨h0, hl, h⟩
    have ho : A[j]? = some A[j] := Array.getElem?_eq_getElem hl
    exact ⟨h0, _, ho, fun e h1 h2 => h _ ((mem_deps ho).2 ⟨e, h1, h2, rfl⟩)⟩
theorem off_iff {L : Array Bool} {j : Nat} (h : j < L.size) : L.getD j true = false ↔ ¬ On L j := by
  unfold On
  simp [Array.getD, h]
theorem on_set {L : Array Bool} {i x : Nat} (hi : i < L.size) : On (L.setIfInBounds i true) x ↔ x = i ∨ On L x := by
  unfold On
  by_cases h : i = x
  · subst h
    simp [hi]
  · rw [getD_set_ne false h]
    exact ⟨.inr, fun hh => hh.elim (fun e => absurd e.symm h) id⟩
theorem off_rep (m j : Nat) : ¬ On (Array.replicate m false) j := by
  unfold On
  rw [Array.getD_eq_getD_getElem?, Array.getElem?_replicate]
  split <;> simp
section
variable {F : Fence} {n : Nat} {P : Program} {C : World → Prop} {Q' : Exit → Act → World → Prop}
theorem any_more {A : Array Oper} : ∀ (fuel : Nat) (L : Array Bool) (a : Act) (w : World), wpAnyIn F n P .any A Q' fuel L a w → wpAnyIn F n P .any A Q' (fuel + 1) L a w
  | 0, L, a, w, h => ⟨fun _ => h.2, fun i hi => by rw [h.1] at hi; cases hi⟩
  | fuel + 1, L, a, w, h => ⟨h.1, fun i hi => wpOpIn_mono (fun a' w' h' => any_more fuel _ a' w' h') (h.2 i hi)⟩
theorem any_adds {A : Array Oper} (L : Array Bool) (a : Act) (w : World) (M : Nat) (h : wpAnyIn F n P .any A Q' M L a w) : ∀ fuel, wpAnyIn F n P .any A Q' (fuel + M) L a w
  | 0 => by rw [Nat.zero_add]; exact h
  | fuel + 1 => by
    have := any_more _ _ _ _ (any_adds L a w M h fuel)
    rwa [show fuel + M + 1 = fuel + 1 + M by omega] at this
variable {l : List Oper} {k : Nat}
theorem wanted_take {o : Oper} {i : Nat} (hi : i < k) (ho : l[i]? = some o) (hg : gatesA k l.toArray = true) (t : Array Value) : Region.wanted o (yielded (l.take k).toArray t) = Region.wanted o (yielded l.toArray t) := by
  have hl : i < l.length := (List.getElem?_eq_some_iff.1 ho).1
  have h := List.all_eq_true.1 hg i (by simp [hl])
  simp only [hi, if_true, Bool.and_eq_true] at h
  have h2 := h.2
  unfold guardOk at h2
  simp only [List.getElem?_toArray, ho, Option.bind_some] at h2
  unfold Region.wanted
  cases hgd : o.guard with
  | none => rfl
  | some p =>
    obtain ⟨g, b⟩ := p
    rw [hgd] at h2
    simp only [decide_eq_true_eq] at h2
    have : yielded (l.take k).toArray t g = yielded l.toArray t g := by
      unfold yielded
      simp only [List.getElem?_toArray, List.getElem?_take, h2, if_true]
    simp only [this]
theorem then_any (hk : k ≤ l.length) (hp : plainOps (l.take k).toArray = true) (hg : gatesA k l.toArray = true) {Q : Act → Prop} (M : Nat)
    (hQ : ∀ (L : Array Bool), L.size = l.length → (∀ j, On L j ↔ j < k) → ∀ a w, C w → Q a → wpAnyIn F n P .any l.toArray Q' M L a w) : ∀ (fuel : Nat) (LA L : Array Bool) (a : Act) (w : World), C w → L.size = l.length → LA.size = k →
      (∀ j, j < k → (On LA j ↔ On L j)) → (∀ j, k ≤ j → ¬ On L j) → ClosedA l.toArray k L → wpAnyQIn F n P .any (l.take k).toArray C Q fuel LA a → wpAnyIn F n P .any l.toArray Q' (fuel + M) L a w := by
  have hsz : (l.take k).toArray.size = k := by simp [hk]
  have hdep : ∀ j, j < k → depsA (l.take k).toArray j = depsA l.toArray j := fun j hj => by
    unfold depsA
    simp only [List.getElem?_toArray, List.getElem?_take, hj, if_true]
  have hlow : ∀ j, j < k → ∀ x ∈ depsA l.toArray j, x < j := fun j hj x hx => by
    have h := List.all_eq_true.1 hg j (by simp; omega)
    simp only [hj, if_true, Bool.and_eq_true] at h
    simpa using List.all_eq_true.1 h.1 x hx
  -- nothing may come up: all have
  have hall : ∀ (LA L : Array Bool), LA.size = k → (∀ j, j < k → (On LA j ↔ On L j)) → Region.ready .any (l.take k).toArray LA = [] → ∀ j, j < k → On L j := by
    intro LA L h1 h2 h3 j
    induction j using Nat.strongRecOn with
    | _ j ih =>
      intro hj
      refine Classical.byContradiction fun hn => ?_
      have : j ∈ Region.ready .any (l.take k).toArray LA := ready_iff.2 ⟨(off_iff (by omega)).2 (fun h => hn ((h2 j hj).1 h)), by omega, fun x hx => by
        rw [hdep j hj] at hx
        have := hlow j hj x hx
        exact (h2 x (by omega)).2 (ih x this (by omega))⟩
      rw [h3] at this
      cases this
  intro fuel
  induction fuel with
  | zero =>
    intro LA L a w hC h1 h2 h3 h4 h5 h
    refine any_adds L a w M (hQ L h1 (fun j => ⟨fun hj => ?_, fun hj => hall LA L h2 h3 h.1 j hj⟩) a w hC h.2) 0
    rcases Nat.lt_or_ge j k with g | g
    · exact g
    · exact absurd hj (h4 j g)
  | succ fuel ih =>
    intro LA L a w hC h1 h2 h3 h4 h5 h
    by_cases hr : Region.ready .any (l.take k).toArray LA = []
    · refine any_adds L a w M (hQ L h1 (fun j => ⟨fun hj => ?_, fun hj => hall LA L h2 h3 hr j hj⟩) a w hC (h.1 hr)) (fuel + 1)
      rcases Nat.lt_or_ge j k with g | g
      · exact g
      · exact absurd hj (h4 j g)
    · obtain ⟨i0, hi0⟩ := List.exists_mem_of_ne_nil _ hr
      have hup : ∀ i, i ∈ Region.ready .any (l.take k).toArray LA → i < k ∧ i ∈ Region.ready .any l.toArray L := fun i hi => by
        obtain ⟨g1, g2, g3⟩ := ready_iff.1 hi
        rw [hsz] at g2
        refine ⟨g2, ready_iff.2 ⟨(off_iff (by omega)).2 (fun h => (off_iff (by omega)).1 g1 ((h3 i g2).2 h)), by simp; omega, fun x hx => ?_⟩⟩
        have := hlow i g2 x hx
        exact (h3 x (by omega)).1 (g3 x (by rw [hdep i g2]; exact hx))
      have hnot : ¬ ∀ j, j < k → On L j := fun hh => by
        obtain ⟨g1, g2⟩ := hup i0 hi0
        obtain ⟨g3, _, _⟩ := ready_iff.1 g2
        exact (off_iff (by omega)).1 g3 (hh i0 g1)
      rw [show fuel + 1 + M = fuel + M + 1 by omega]
      refine ⟨fun h0 => ?_, fun i hi => ?_⟩
      · have := (hup i0 hi0).2
        rw [h0] at this
        cases this
      · obtain ⟨g1, g2, g3⟩ := ready_iff.1 hi
        have hik : i < k := by
          refine Classical.byContradiction fun hn => ?_
          have h := List.all_eq_true.1 hg i (by simpa using g2)
          simp only [hn, if_false, Bool.or_eq_true] at h
          rcases h with h | h
          · obtain ⟨x, hx, hx2⟩ := List.any_eq_true.1 h
            simp only [decide_eq_true_eq] at hx2
            exact h4 x hx2 (g3 x hx)
          · exact hnot (gate_all h5 k _ (Nat.le_refl _) h g3)
        have hiA : i ∈ Region.ready .any (l.take k).toArray LA := ready_iff.2 ⟨(off_iff (by omega)).2 (fun h => (off_iff (by omega)).1 g1 ((h3 i hik).1 h)), by omega, fun x hx => by
          rw [hdep i hik] at hx
          have := hlow i hik x hx
          exact (h3 x (by omega)).2 (g3 x hx)⟩
        have hq := h.2 i hiA
        have hlen : i < l.length := by omega
        have ho : l[i]? = some l[i] := List.getElem?_eq_getElem hlen
        have hoA : (l.take k).toArray[i]? = some l[i] := by simp [hik, ho]
        unfold qOpIn at hq
        unfold wpOpIn
        rw [hoA] at hq
        simp only [List.getElem?_toArray, ho] at hq ⊢
        have hnext : ∀ a' w', C w' → wpAnyQIn F n P .any (l.take k).toArray C Q fuel (LA.setIfInBounds i true) a' → wpAnyIn F n P .any l.toArray Q' (fuel + M) (L.setIfInBounds i true) a' w' := fun a' w' hw' h' => by
          refine ih _ _ a' w' hw' (by simpa using h1) (by simpa using h2) (fun j hj => ?_) (fun j hj => ?_) (fun j hj hon x hx => ?_) h'
          · rw [on_set (by omega), on_set (by omega), h3 j hj]
          · rw [on_set (by omega)]
            rintro (e | e)
            · omega
            · exact h4 j hj e
          · rw [on_set (by omega)] at hon ⊢
            rcases hon with e | e
            · exact .inr (g3 x (by rw [← e]; exact hx))
            · exact .inr (h5 j hj e x hx)
        by_cases hw : Region.wanted l[i] (yielded (l.take k).toArray a.tmps) = true
        · simp only [hw, if_true] at hq
          rw [wanted_take hik ho hg] at hw
          simp only [hw, if_true]
          exact quiet_one (fun ρ => plainOps_at hp hoA _ ρ) hC hnext hq.1 hq.2
        · simp only [hw] at hq
          rw [wanted_take hik ho hg] at hw
          simp only [hw]
          exact ⟨hq.1 w hC, hnext _ _ hC hq.2⟩
theorem quiet_then {id : Nat} {a : Act} {w : World} (k : Nat) (hk : k ≤ l.length) (hp : plainOps (l.take k).toArray = true) (hg : gatesA k l.toArray = true) (hm : P.follows .mixedOrders = true) (hB : Region.lexB .any (l.take k).toArray = true)
    (h : wpQuietIn F n P (l.take k).toArray (fun w' => ∃ n, w' = w.drewN n) (fun a' => ∀ w', (∃ n, w' = w.drewN n) → wpAnyIn F n P .any l.toArray Q' (l.length - k) (List.replicate k true ++ List.replicate (l.length - k) false).toArray a' w') (l.take k) a) : (Code.region id l.toArray true).wpIn F n P Q' a w := by
  simp only [Region.lexB, Bool.and_eq_true] at hB
  have hlen : (l.take k).length = k := by simp [hk]
  have h9 := wpAnyQIn_lex (F := F) (n := n) (C := fun w' => ∃ n, w' = w.drewN n) (md := .any) hB.1 (l.take k) 0 (Array.replicate (l.take k).toArray.size false) a (by simp) (by simpa using hB.2) h
  refine wpIn_region_any hm ?_
  have h10 := then_any (F := F) (n := n) (P := P) (Q' := Q') (C := fun w' => ∃ n, w' = w.drewN n) hk hp hg (l.length - k) (fun L h1 h2 a' w' hw hq => by
    have e : L = (List.replicate k true ++ List.replicate (l.length - k) false).toArray := by
      apply Array.ext
      · simp; omega
      · intro i hi1 hi2
        have h3 := h2 i
        unfold On at h3
        simp only [Array.getD, hi1, dif_pos] at h3
        simp only [List.getElem_toArray, List.getElem_append, List.getElem_replicate, List.length_replicate]
        by_cases hik : i < k
        · simp only [hik, dite_true]
          exact h3.2 hik
        · simp only [hik, dite_false]
          simpa using fun hh => hik (h3.1 hh)
    rw [e]
    exact hq w' hw) (l.take k).length (Array.replicate (l.take k).toArray.size false) (Array.replicate l.toArray.size false) a { w with drawn := w.drawn + 1 } ⟨1, rfl⟩ (by simp) (by simp [hk]) (fun j hj => ⟨fun h => absurd h (off_rep _ _), fun h => absurd h (off_rep _ _)⟩) (fun j hj => off_rep _ _) (fun j hj ho => absurd ho (off_rep _ _)) h9
  rw [hlen, show k + (l.length - k) = l.length by omega] at h10
  simpa using h10
end
end Go.Proofs.YtdjcidackkogjaaGreatDoor
namespace Go.Proofs.YtdjcidackkogjaaGreatDoor
open Go

def onlyN (Q : Exit → Act → World → Prop) : Exit → Act → World → Prop
  | .normal, a, w => Q .normal a w
  | _, _, _ => False
theorem onlyN.normal {Q : Exit → Act → World → Prop} {a : Act} {w : World} (h : Q .normal a w) : onlyN Q .normal a w := h
theorem onlyN.stays (Q : Exit → Act → World → Prop) : ¬ LetsOut (onlyN Q) := fun ⟨_, _, h⟩ => h
section
variable {P : Program} {ops : Array Oper} {Q : Exit → Act → World → Prop} {l n : Nat}
theorem oper_round {o : Oper} {a : Act} {w : World} {K K' : Act → World → Prop} (hs : ∀ ρ, Oper.semAt (Fence.wide.inRound l).round ρ o = execOp ρ o) (hK : ∀ a w, K a w → K' a w) (h : o.wp P a w K (onlyN Q)) : o.wpIn (Fence.wide.inRound l) n P a w K' Q := by
  refine ⟨fun _ _ => trivial, ?_⟩
  rw [hs]
  unfold Oper.wp at h
  revert h
  cases (execOp a.eval o).run P w with
  | halt x w' =>
    intro h
    cases x <;> simp only [Oper.upon] at h
    exact h.elim
  | ok x w' =>
    intro h
    cases x with
    | value v => exact hK _ _ h
    | skip => exact hK _ _ h
    | defer d => exact hK _ _ h
    | enter f args =>
      simp only [Oper.upon] at h
      refine ⟨fun hd => (by cases hd), (CallsIn.inRound l (callsIn_wide.2 h)).mono ?_⟩
      intro e w'' he
      cases e with
      | returned v => exact hK _ _ he
      | panicked c => exact he.elim
      | outgrown => exact (onlyN.stays Q he).elim
    | row row args =>
      simp only [Oper.upon] at h
      refine ⟨fun hd => (by cases hd), fun c cs _ => ?_⟩
      obtain ⟨v, w', r, s⟩ := h c cs
      exact ⟨v, w', hK _ _ r, stepsIn_wide.2 s⟩
    | _ => simp only [Oper.upon] at h
theorem any_round (hp : plainOps ops = true) : ∀ (fuel : Nat) (L : Array Bool) (a : Act) (w : World), wpAny P .any ops (onlyN Q) fuel L a w → wpAnyIn (Fence.wide.inRound l) n P .any ops Q fuel L a w
  | 0, _, _, _, h => h
  | fuel + 1, L, a, w, h => ⟨h.1, fun i hi => by
    have hq := h.2 i hi
    unfold wpOp at hq
    unfold wpOpIn
    cases ho : ops[i]? with
    | none => simp only [ho] at hq ⊢; exact any_round hp fuel _ _ _ hq
    | some o =>
      simp only [ho] at hq ⊢
      by_cases hg : Region.wanted o (yielded ops a.tmps) = true
      · simp only [hg, if_true] at hq ⊢
        rcases hq with hq | hq
        · exact oper_round (fun ρ => plainOps_at hp ho _ ρ) (fun a w h' => any_round hp fuel _ a w h') hq
        · exact (onlyN.stays Q hq.2).elim
      · simp only [hg] at hq ⊢
        exact ⟨fun _ _ => trivial, any_round hp fuel _ _ _ hq⟩⟩
theorem round_held {S : World → Prop} {id : Nat} {a : Act} {w : World} (hp : plainOps ops = true) (hm : P.follows .mixedOrders = true) (hS : S w.drew)
    (h : S w.drew → wpAnyH P .any ops (onlyN Q) S ops.size (Array.replicate ops.size false) a w.drew) : (Code.region id ops true).wpIn (Fence.wide.inRound l) n P Q a w :=
  wpIn_region_any hm (any_round hp _ _ _ _ (wpAny_of_held _ _ _ _ (h hS)))
end
end Go.Proofs.YtdjcidackkogjaaGreatDoor

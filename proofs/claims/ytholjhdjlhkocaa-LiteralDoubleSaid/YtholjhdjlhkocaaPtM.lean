/- The finder of layer 7 (parts) in memory: its block, the rows of its parts and of the numbers of the open ones. No condition. -/
import Derived.Test.YtholjhdjlhkocaaPtR
import Derived.Test.YtholjhdjlhkocaaMdO
import Derived.Test.YtholjhdjlhkocaaPtA
namespace Go.Proofs.Ytholjhdjlhkocaa
open Go.RowKit
set_option linter.unusedVariables false

/-- A part as cells. -/
def cellP (p : Prt) : List Value := [.int .i64 (p.mode : Int), .int .i64 (p.frm : Int), .int .i64 (p.to : Int), .int .i64 p.up, .bool p.op]
def cellsP (l : List Prt) : List Value := l.flatMap cellP
def cellsO (l : List Nat) : List Value := l.map fun x : Nat => .int .i64 (x : Int)
theorem cellsP_cons (a : Prt) (l : List Prt) : cellsP (a :: l) = .int .i64 (a.mode : Int) :: .int .i64 (a.frm : Int) :: .int .i64 (a.to : Int) :: .int .i64 a.up :: .bool a.op :: cellsP l := by
  unfold cellsP; rw [List.flatMap_cons]; rfl
theorem cellsP_length (l : List Prt) : (cellsP l).length = l.length * 5 := by
  induction l with
  | nil => rfl
  | cons a l ih => rw [cellsP_cons]; simp only [List.length_cons, ih]; omega
theorem cellsP_append (l k : List Prt) : cellsP (l ++ k) = cellsP l ++ cellsP k := by unfold cellsP; rw [List.flatMap_append]
theorem cellsP_one (l : List Prt) : ∀ v ∈ cellsP l, v.oneCell' = true := by
  intro v hv
  obtain ⟨s, _, hs⟩ := List.mem_flatMap.1 hv
  simp [cellP] at hs
  rcases hs with rfl | rfl | rfl | rfl | rfl <;> rfl
theorem cellsO_length (l : List Nat) : (cellsO l).length = l.length := by simp [cellsO]
theorem cellsO_one (l : List Nat) : ∀ v ∈ cellsO l, v.oneCell' = true := by
  intro v hv
  obtain ⟨s, _, rfl⟩ := List.mem_map.1 hv
  rfl
theorem cellsP_at : ∀ {l : List Prt} {j : Nat} {p : Prt}, l[j]? = some p → ∀ c v, (cellP p)[c]? = some v → (cellsP l)[j * 5 + c]? = some v
  | [], j, p, h, c, v, hv => by simp at h
  | a :: l, 0, p, h, c, v, hv => by
    simp at h
    subst h
    have hc : c < (cellP a).length := (List.getElem?_eq_some_iff.1 hv).1
    show (cellsP (a :: l))[0 * 5 + c]? = _
    rw [Nat.zero_mul, Nat.zero_add]
    unfold cellsP
    rw [List.flatMap_cons, List.getElem?_append_left hc]
    exact hv
  | a :: l, j + 1, p, h, c, v, hv => by
    have h' : l[j]? = some p := by simpa using h
    have ih := cellsP_at h' c v hv
    rw [cellsP_cons, show (j + 1) * 5 + c = j * 5 + c + 1 + 1 + 1 + 1 + 1 by omega]
    simpa using ih
/-- A field of a part is set. -/
def setF (p : Prt) (c : Nat) (v : Value) (q : Prt) : Prop := cellP q = (cellP p).set c v ∧ c < 5
theorem cellsP_set : ∀ {l : List Prt} {j c : Nat} {p q : Prt} {v : Value}, l[j]? = some p → setF p c v q → cellsP (l.set j q) = (cellsP l).set (j * 5 + c) v
  | [], j, c, p, q, v, h, _ => by simp at h
  | a :: l, 0, c, p, q, v, h, hs => by
    simp at h
    subst h
    have hc : c < (cellP a).length := hs.2
    rw [List.set_cons_zero, Nat.zero_mul, Nat.zero_add]
    unfold cellsP
    rw [List.flatMap_cons, List.flatMap_cons, hs.1, List.set_append_left _ _ hc]
  | a :: l, j + 1, c, p, q, v, h, hs => by
    have h' : l[j]? = some p := by simpa using h
    have ih := cellsP_set h' hs
    rw [List.set_cons_succ]
    show cellP a ++ cellsP (l.set j q) = (cellP a ++ cellsP l).set _ _
    rw [ih, show (j + 1) * 5 + c = (cellP a).length + (j * 5 + c) by simp [cellP]; omega, List.set_append_right _ _ (Nat.le_add_right _ _)]
    congr 2
    omega
/-- A cell of a row of the call's own is set. -/
theorem owns_set {w : World} {base : Nat} {e : TypeId} {size n g cap : Nat} {xs : List Value} (h : w.ownsRow base e size (.slice (some ⟨g, 0, none⟩) n cap) n xs) (i : Nat) (u : Value) (hi : i < xs.length) :
    (w.setCell ⟨g, i, none⟩ u).ownsRow base e size (.slice (some ⟨g, 0, none⟩) n cap) n (xs.set i u) := by
  refine ⟨by rw [List.length_set]; exact h.1, .inr ?_⟩
  rcases h.2 with ⟨h0, _⟩ | ⟨g', cap', cur, hv, h2, h3, h4, h5, h6, h7⟩
  · cases h0
  · cases hv
    refine ⟨g, cap, _, rfl, h2, Blk.set (t := e) h3 i u, h4, h5, by simpa using h6, ?_⟩
    rw [Array.toList_setIfInBounds, List.take_set, h7]
theorem owns_nil {w : World} {base : Nat} {e : TypeId} {size n : Nat} {v : Value} {xs : List Value} (h : w.ownsRow base e size v n xs) (hn : 0 < n) : ∃ g cap, v = .slice (some ⟨g, 0, none⟩) n cap ∧ base ≤ g ∧ n ≤ cap ∧ cap ≤ maxLen ∧ g < w.heap.size := by
  rcases h.2 with ⟨_, h1⟩ | ⟨g, cap, cur, hv, h2, h3, h4, h5, _⟩
  · omega
  · exact ⟨g, cap, hv, h2, h4, h5, (Array.getElem?_eq_some_iff.1 h3).1⟩
/-- The last ones of a row of the call's own are left out. -/
theorem owns_pop {w : World} {base : Nat} {e : TypeId} {n m g cap : Nat} {xs ys : List Value} (h : w.ownsRow base e 1 (.slice (some ⟨g, 0, none⟩) n cap) n xs) (hm : m ≤ n) (hy : ys = xs.take m) :
    w.ownsRow base e 1 (.slice (some ⟨g, 0, none⟩) m cap) m ys := by
  subst hy
  have h1 := h.1
  refine ⟨by rw [List.length_take]; omega, .inr ?_⟩
  rcases h.2 with ⟨h0, _⟩ | ⟨g', cap', cur, hv, h2, h3, h4, h5, h6, h7⟩
  · cases h0
  · cases hv
    refine ⟨g, cap, cur, rfl, h2, h3, by omega, h5, h6, ?_⟩
    rw [← h7, List.take_take]
    congr 1
    omega
theorem owns_frozen {w : World} {base : Nat} {e : TypeId} {size n g cap : Nat} {xs : List Value} (h : w.ownsRow base e size (.slice (some ⟨g, 0, none⟩) n cap) n xs) (o : Nat) : w.frozen? ⟨g, o, none⟩ = false := by
  rcases h.2 with ⟨h0, _⟩ | ⟨g', cap', cur, hv, h2, h3, _⟩
  · cases h0
  · cases hv
    exact Blk.frozen (t := e) h3 o

/-- The finder at fb. -/
structure Fd (w : World) (fb : Nat) (s : ByteArray) (pv : Value) (L : List Prt) (ov : Value) (O : List Nat) : Prop where
  obj : Blk w fb #[.string s, pv, ov] 82
  parts : w.ownsRow 0 45 5 pv L.length (cellsP L)
  opens : w.ownsRow 0 3 1 ov O.length (cellsO O)
  np : pv.ownBlock ≠ some fb
  no : ov.ownBlock ≠ some fb
  ne : ∀ b, pv.ownBlock = some b → ov.ownBlock ≠ some b
/-- What a finder may turn. -/
def ffoot (fb : Nat) (pv ov : Value) (k : Nat) : Prop := k = fb ∨ pv.ownBlock = some k ∨ ov.ownBlock = some k
theorem Fd.frm {p : Nat → Prop} {w w' : World} {fb : Nat} {s : ByteArray} {pv ov : Value} {L : List Prt} {O : List Nat} (h : Fd w fb s pv L ov O) (hf : Frm p w w') (hp : ∀ k, ffoot fb pv ov k → ¬ p k) : Fd w' fb s pv L ov O :=
  ⟨h.obj.frm hf (hp _ (.inl rfl)), own_frm hf h.parts (fun k hk => hp _ (.inr (.inl hk))), own_frm hf h.opens (fun k hk => hp _ (.inr (.inr hk))), h.np, h.no, h.ne⟩
theorem Fd.still {w w' : World} {fb : Nat} {s : ByteArray} {pv ov : Value} {L : List Prt} {O : List Nat} (h : Fd w fb s pv L ov O) (hf : Frm (fun _ => False) w w') : Fd w' fb s pv L ov O := h.frm hf (fun _ _ h => h)
theorem Fd.lt {w : World} {fb : Nat} {s : ByteArray} {pv ov : Value} {L : List Prt} {O : List Nat} (h : Fd w fb s pv L ov O) : ∀ k, ffoot fb pv ov k → k < w.heap.size := by
  rintro k (rfl | hk | hk)
  · exact h.obj.lt
  · exact own_lt h.parts k hk
  · exact own_lt h.opens k hk
/-- A finder behind a call, and what has been left alone. -/
def FdTo (w : World) (fb : Nat) (s : ByteArray) (pv ov : Value) (L : List Prt) (O : List Nat) (w' : World) : Prop :=
  ∃ pv' ov', Fd w' fb s pv' L ov' O ∧ Frm (ffoot fb pv ov) w w' ∧ ∀ k, ffoot fb pv' ov' k → ffoot fb pv ov k ∨ w.heap.size ≤ k
theorem FdTo.trans {w1 w2 w3 : World} {fb : Nat} {s : ByteArray} {pv ov pv2 ov2 : Value} {L : List Prt} {O : List Nat} (hF : Frm (ffoot fb pv ov) w1 w2) (hk : ∀ k, ffoot fb pv2 ov2 k → ffoot fb pv ov k ∨ w1.heap.size ≤ k) (h : FdTo w2 fb s pv2 ov2 L O w3) : FdTo w1 fb s pv ov L O w3 := by
  obtain ⟨pv3, ov3, h1, h2, h3⟩ := h
  refine ⟨pv3, ov3, h1, hF.trans h2 (fun i hi hh => ?_), fun k hh => ?_⟩
  · rcases hk i hh with g | g
    · exact g
    · omega
  · rcases h3 k hh with g | g
    · exact hk k g
    · exact .inr (by have := hF.size; omega)
/-- What the last open part lies as. -/
theorem Fd.last {w : World} {fb : Nat} {s : ByteArray} {pv ov : Value} {L : List Prt} {O : List Nat} {o : Nat} {p : Prt} (h : Fd w fb s pv L ov (O ++ [o])) (hp : L[o]? = some p) :
    ∃ pb pcap ob ocap, pv = .slice (some ⟨pb, 0, none⟩) L.length pcap ∧ ov = .slice (some ⟨ob, 0, none⟩) (O.length + 1) ocap ∧ (∀ c v, (cellP p)[c]? = some v → w.cell? ⟨pb, o * 5 + c, none⟩ = some v) ∧ w.cell? ⟨ob, O.length, none⟩ = some (.int .i64 (o : Int)) ∧ (∀ c, w.frozen? ⟨pb, c, none⟩ = false) ∧ O.length + 1 ≤ ocap ∧ o < L.length ∧ L.length ≤ pcap ∧ pb ≠ fb ∧ ob ≠ fb ∧ pb ≠ ob := by
  have hl : o < L.length := (List.getElem?_eq_some_iff.1 hp).1
  obtain ⟨pb, pcap, rfl, _, hpc, _, _⟩ := owns_nil h.parts (by omega)
  obtain ⟨ob, ocap, rfl, _, hoc, _, _⟩ := owns_nil h.opens (by simp)
  simp only [List.length_append, List.length_cons, List.length_nil, Nat.zero_add] at hoc
  refine ⟨pb, pcap, ob, ocap, rfl, by simp, fun c v hv => ?_, ?_, fun c => owns_frozen h.parts c, hoc, hl, hpc, fun e => h.np (by rw [e]; rfl), fun e => h.no (by rw [e]; rfl), fun e => h.ne pb rfl (by rw [e]; rfl)⟩
  · have := h.parts.cells (g := pb) rfl (o * 5 + c) v (cellsP_at hp c v hv)
    rwa [Addr.add_lit, Nat.zero_add] at this
  · have := h.opens.cells (g := ob) rfl O.length (.int .i64 (o : Int)) (by simp [cellsO])
    rwa [Addr.add_lit, Nat.zero_add] at this
end Go.Proofs.Ytholjhdjlhkocaa

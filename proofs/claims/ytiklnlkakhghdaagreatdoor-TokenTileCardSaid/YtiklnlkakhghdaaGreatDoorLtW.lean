/- What a strings.Builder's WriteString leaves, told of its own two blocks; and how long the pieces of a text are, all together: plain facts. Condition: texts of at most a million bytes. -/
import Derived.Test.YtiklnlkakhghdaaGreatDoorMdL
import Derived.Test.YtiklnlkakhghdaaGreatDoorLtE
import Derived.Test.YtiklnlkakhghdaaGreatDoorLtG
namespace Go.Proofs.YtiklnlkakhghdaaGreatDoor
open Go.RowKit Go.Shelf
set_option linter.unusedVariables false

/-- A builder in block b, its bytes in the row v. -/
def BldV (b : Nat) (v : Value) (x : List Value) (W : World) : Prop := (Blk W b #[.pointer none, v] 109 ∨ Blk W b #[.pointer (some ⟨b, 0, none⟩), v] 109) ∧ W.ownsRow b 5 1 v x.length x
theorem BldV.frm {b : Nat} {v : Value} {x : List Value} {W W' : World} {p : Nat → Prop} (h : BldV b v x W) (hf : Frm p W W') (h1 : ¬ p b) (h2 : ∀ g, v.ownBlock = some g → ¬ p g) : BldV b v x W' :=
  ⟨h.1.imp (fun h => h.frm hf h1) (fun h => h.frm hf h1), own_frm hf h.2 h2⟩
theorem BldV.ne {b : Nat} {v : Value} {x : List Value} {W : World} (h : BldV b v x W) : ¬ v.ownBlock = some b := fun e2 => by
  rcases h.2.2 with ⟨g1, _⟩ | ⟨g, cap, cur, g1, _, g3, _⟩
  · rw [g1] at e2; cases e2
  · rw [g1] at e2
    have e' : g = b := by simpa [Value.ownBlock] using e2
    subst e'
    rcases h.1 with hb | hb
    · rw [show W.heap[g]? = _ from hb] at g3
      injection g3 with g3
      injection g3 with _ g5 _
      exact absurd g5 (by decide)
    · rw [show W.heap[g]? = _ from hb] at g3
      injection g3 with g3
      injection g3 with _ g5 _
      exact absurd g5 (by decide)
theorem BldV.isB {b : Nat} {v : Value} {x : List Value} {W : World} (h : BldV b v x W) : Bld b x W := by
  rcases h.1 with hb | hb
  · exact .inl ⟨Nat.le_refl _, v, hb, h.2, h.ne⟩
  · exact .inr ⟨Nat.le_refl _, v, hb, h.2, h.ne⟩
theorem BldV.lt {b : Nat} {v : Value} {x : List Value} {W : World} (h : BldV b v x W) : b < W.heap.size := by
  rcases h.1 with hb | hb <;> exact hb.lt
section
variable (w : World)
set_option maxRecDepth 100000 in
set_option maxHeartbeats 2000000 in
theorem wstring_own (b : Nat) (v : Value) (x : List Value) (s : ByteArray) (h : BldV b v x w) (hl : x.length ≤ 1000000) (hs : s.size ≤ 1000000) :
    Calls Tryz.prog 74 #[.pointer (some ⟨b, 0, none⟩), .string s] w fun e w' => e = .returned (.tuple #[.int .i64 s.size, .nilIface]) ∧ ∃ v', BldV b v' (x ++ Lib.strCells s) w' ∧ Frm (fun k => k = b ∨ v.ownBlock = some k) w w' ∧ ∀ g, v'.ownBlock = some g → v.ownBlock = some g ∨ w.heap.size ≤ g := by
  have hne := h.ne
  have hown := h.2
  obtain ⟨oa, oc, rfl⟩ : ∃ oa oc, v = .slice oa x.length oc := by
    rcases hown.2 with ⟨h1, h2⟩ | ⟨g, cap, cur, h1, _⟩
    · exact ⟨none, 0, by rw [h1, h2]⟩
    · exact ⟨_, _, h1⟩
  -- behind copyCheck
  have hcc : Calls Tryz.prog 99 #[.pointer (some ⟨b, 0, none⟩)] w fun e w' => e = .returned (.tuple #[]) ∧ Blk w' b #[.pointer (some ⟨b, 0, none⟩), .slice oa x.length oc] 109 ∧ Frm (fun k => k = b) w w' := by
    rcases h.1 with hb | hb
    · refine (Any.Builder_copyCheck_fresh (ρ := renB) { laidN166 with } laidX.toX72 b w (hb.cell 0) (by simp [World.shape?, show w.heap[b]? = _ from hb]; rfl) (hb.frozen 0)).mono ?_
      rintro e w' ⟨rfl, rfl⟩
      exact ⟨rfl, hb.set 0 _, Frm.setCell (p := fun k => k = b) (Frm.refl _ w) 0 (.inl rfl) _⟩
    · refine (Any.Builder_copyCheck_used (ρ := renB) { laidN166 with } laidX.toX72 b w (hb.cell 0)).mono ?_
      rintro e w' ⟨rfl, rfl⟩
      exact ⟨rfl, hb, Frm.refl _ _⟩
  have HCC := Lib.hid hcc
  clear hcc
  go_enter Tryz.func74, Tryz.ntmps74
  go_wp2_with fail
  refine (HCC.out).mono ?_
  rintro e w1 ⟨rfl, hb1, hF1⟩
  have hown1 := own_frm hF1 hown (fun k hk e => hne (e ▸ hk))
  obtain ⟨z, hz⟩ : ∃ z, x.length = z := ⟨_, rfl⟩
  have HZ := Lib.hid hz
  have hzl : z ≤ 1000000 := by omega
  rw [hz] at hown1 hb1
  have c1 := hb1.cell 1
  have f1 := hb1.frozen 1
  have hb1l : b ≤ w1.heap.size := by have := hb1.lt; omega
  have hne1 : some b ≠ (Value.slice oa z oc).ownBlock := fun e => hne (by rw [hz]; exact e.symm)
  have HB1 := Lib.hid hb1
  have HOWN := Lib.hid hown1
  clear hz hown1
  go_wp2_with (at_builtin; refine wpl_app_text rfl _ _ rfl b z _ x s rfl rfl HOWN.out hb1l (by omega) (by omega) ?_; intro oa' oc' w' hown2 hgr hg'; have o7 := hb1.grown hgr hne1; have d1 := o7.cell 1; have df := o7.frozen 1)
  go_ret2
  refine ⟨rfl, .slice oa' (z + s.size) oc', ⟨.inr ?_, ?_⟩, ?_, ?_⟩
  · exact o7.set 1 _
  · have e1 : (x ++ Lib.strCells s).length = z + s.size := by rw [List.length_append, Lib.strCells_length, HZ.out]
    rw [e1]
    refine own_frm (Frm.setCell (p := fun k => k = b) (Frm.refl _ w') 1 (.inl rfl) _) hown2 (fun k hk e => ?_)
    subst e
    rcases hg' with e2 | e2
    · exact hne1 (hk.symm.trans e2)
    · rw [e2] at hk
      have := HB1.out.lt
      injection hk with hk
      omega
  · refine (hF1.mono (fun _ _ h => .inl h)).trans (Frm.setCell (p := fun k => k = b ∨ (Value.slice oa x.length oc).ownBlock = some k) ((Frm.refl _ w1).grown hgr (fun k hk => .inl (.inr (by rw [HZ.out]; exact hk)))) 1 (.inl (.inl rfl)) _) (fun _ _ h => h)
  · intro g hg
    rcases hg' with e2 | e2
    · left; rw [HZ.out]; exact e2.symm.trans hg
    · right
      rw [e2] at hg
      injection hg with hg
      have := hF1.size
      omega
end
/-- A text with a backslash ahead of each byte. -/
def shT (l : List UInt8) : List UInt8 := l.flatMap fun b => [92, b]
/-- A piece as a pattern. -/
def shP (x : Pc) : ByteArray := if x.q = false then x.t else ⟨(shT x.t.data.toList).toArray⟩
theorem shT_take (l : List UInt8) {i : Nat} (h : i < l.length) : Lib.byteCells (shT (l.take (i + 1))) = Lib.byteCells (shT (l.take i)) ++ [.int .u8 92] ++ [.int .u8 (l[i].toNat : Int)] := by
  rw [List.take_succ_eq_append_getElem h]
  unfold shT Lib.byteCells
  rw [List.flatMap_append, List.map_append, List.append_assoc]
  rfl
theorem shT_len (l : List UInt8) : (Lib.byteCells (shT l)).length = 2 * l.length := by
  unfold Lib.byteCells shT
  rw [List.length_map]
  induction l with
  | nil => rfl
  | cons b l ih => simp [ih]; omega
/-- What pieces are written as, the one behind the other. -/
def catW (f : Pc → ByteArray) : List Pc → ByteArray
  | [] => ByteArray.empty
  | x :: l => f x ++ catW f l
theorem catW_append (f : Pc → ByteArray) (a b : List Pc) : catW f (a ++ b) = catW f a ++ catW f b := by
  induction a with
  | nil => simp [catW]
  | cons x a ih => simp [catW, ih, ByteArray.append_assoc]
theorem catW_snoc (f : Pc → ByteArray) (a : List Pc) (x : Pc) : Lib.strCells (catW f (a ++ [x])) = Lib.strCells (catW f a) ++ Lib.strCells (f x) := by
  rw [catW_append]
  simp [catW, Lib.strCells]
/-- The texts of the pieces of a text are short. -/
def PcOk (f : Pc → ByteArray) (L : List Pc) : Prop := ∀ pre x rest, L = pre ++ x :: rest → x.t.size ≤ 60000 ∧ (catW f pre).size ≤ 400000 ∧ (f x).size ≤ 400000
end Go.Proofs.YtiklnlkakhghdaaGreatDoor
namespace Go.Proofs.YtiklnlkakhghdaaGreatDoor
open Go.RowKit
set_option linter.unusedVariables false

theorem fl_size (dbl : Bool) (h : ByteArray) (w : Bool) : (bareL (fl dbl h w)).size = h.size := by
  unfold fl
  split
  · rename_i hh; simp [bareL]; exact hh.1.symm
  · simp [bareL]
theorem itself_size2 {s : ByteArray} {p : Prt} {dbl : Bool} {X : ByteArray} (h : itself s p dbl = some X) : X.size ≤ p.to - p.frm := itself_size (dbl := dbl) (by rw [if_pos rfl]; exact h)
theorem rm_tot {s : ByteArray} {dbl : Bool} {sub : Nat → List Pc} {e E : Nat} {Rch : Nat → Prop} (he : e ≤ s.size) (heE : e ≤ E) (hR1 : ∀ a, Rch a → a < e → born s a = false → Rch (a + 1)) (hR2 : ∀ a, Rch a → a < e → born s a = true → Rch (prt s a).to ∧ (prt s a).to ≤ E)
    (hsub : ∀ a, Rch a → a < e → born s a = true → (bareL (sub a)).size ≤ (prt s a).to - a) : ∀ (k a : Nat) (h : ByteArray) (w : Bool), Rch a → a ≤ E → (bareL (rm s dbl sub e k a h w)).size ≤ h.size + (E - a)
  | 0, a, h, w, _, _ => by unfold rm; rw [fl_size]; omega
  | k + 1, a, h, w, hr, ha => by
    unfold rm
    by_cases hae : a < e
    · rw [if_pos hae]
      by_cases hb : born s a = true
      · rw [if_pos hb]
        have hg := to_gt hb (by omega)
        obtain ⟨r1, r2⟩ := hR2 a hr hae hb
        cases hi : itself s (prt s a) dbl with
        | some t =>
          have h1 := itself_size2 hi
          rw [prt_frm] at h1
          have := rm_tot (dbl := dbl) he heE hR1 hR2 hsub k _ (h ++ t) w r1 r2
          rw [ByteArray.size_append] at this
          simp only
          omega
        | none =>
          have h1 := hsub a hr hae hb
          have := rm_tot (dbl := dbl) he heE hR1 hR2 hsub k _ ByteArray.empty false r1 r2
          simp only
          rw [bareL_append, bareL_append, ByteArray.size_append, ByteArray.size_append, fl_size]
          have e0 : (ByteArray.empty).size = 0 := rfl
          omega
      · rw [if_neg hb]
        have := rm_tot (dbl := dbl) he heE hR1 hR2 hsub k _ (h ++ s.extract a (a + 1)) w (hR1 a hr hae (by simpa using hb)) (by omega)
        rw [ByteArray.size_append] at this
        have e1 : (s.extract a (a + 1)).size ≤ 1 := by simp; omega
        omega
    · rw [if_neg hae, fl_size]; omega
/-- The scan of a Double's inside. -/
def DqR (s : ByteArray) (f x : Nat) : Prop := f + 1 ≤ x ∧ (x < insT (prt s f) → AtB s x ((5, f) :: blw s f))
theorem dq_facts {s : ByteArray} {f : Nat} (hf : f < s.size) (hb : born s f = true) (hm : (prt s f).mode = 5) :
    insT (prt s f) ≤ s.size ∧ insT (prt s f) ≤ (prt s f).to ∧ DqR s f (f + 1) ∧ (∀ a, DqR s f a → a < insT (prt s f) → pres s (a + 1) f = true) := by
  have hto := to_gt hb hf
  have hle := (prt_le hf hb).1
  have hfr := prt_frm s f
  have hins := insT_le (prt s f) (by rw [hfr]; exact hto) hle (by rw [hm]; rfl)
  rw [hfr] at hins
  have h5 : md s (f + 1) f = 5 := dq_born (eK_pres2 hb hf) (cnt_5 (by rw [← prt_mo hb hf]; exact hm))
  have hB : nt s (f + 1) = (5, f) :: blw s f := by have := born_split hb; rw [h5] at this; exact this
  have hi2 : insT (prt s f) ≤ (prt s f).to := (insT_le (prt s f) (by rw [hfr]; exact hto) (Nat.le_refl _) (by rw [hm]; rfl)).2
  refine ⟨hins.2, hi2, ⟨Nat.le_refl _, fun _ _ => .inl hB⟩, ?_⟩
  rintro x ⟨h1, _⟩ h2
  have h2' := h2
  have hpe := prt_eq hb hf
  have h12 : ¬ cnt (md s (eK s f s.size) f) = 12 := by rw [← prt_mo hb hf, hm]; decide
  rw [if_neg h12] at hpe
  refine eK_pres (k := s.size) (by omega) ?_
  rw [hpe] at h2
  have hm5 : cnt (md s (eK s f s.size) f) = 5 := by rw [← prt_mo hb hf]; exact hm
  unfold insT at h2
  simp only [hm5] at h2
  have e1 : headM 5 = 1 := rfl
  have e2 : tailM 5 = 1 := rfl
  rw [e1, e2] at h2
  by_cases hE : eK s f s.size = s.size
  · omega
  · rw [if_neg hE] at h2
    have : decide (eK s f s.size = s.size) = false := decide_eq_false hE
    rw [this] at h2
    simp at h2
    repeat' split at h2
    all_goals omega
theorem dq_next {s : ByteArray} {f : Nat} (hf : f < s.size) (hb : born s f = true) (hm : (prt s f).mode = 5) :
    (∀ a, DqR s f a → a < insT (prt s f) → born s a = false → DqR s f (a + 1)) ∧ ∀ a, DqR s f a → a < insT (prt s f) → born s a = true → DqR s f (prt s a).to ∧ (prt s a).to ≤ (prt s f).to := by
  obtain ⟨h1, h2, _, hin⟩ := dq_facts hf hb hm
  refine ⟨?_, ?_⟩
  · rintro a ⟨g1, g2⟩ hlt hbn
    exact ⟨by omega, fun _ _ => .inl ((g2 hlt).none (.inr ⟨f, _, rfl, hin a ⟨g1, g2⟩ hlt⟩) (by omega) hbn)⟩
  · rintro a ⟨g1, g2⟩ hlt hbn
    have ha : a < s.size := by omega
    have := to_gt hbn ha
    have hw := (g2 hlt).born (.inr ⟨f, _, rfl, hin a ⟨g1, g2⟩ hlt⟩) ha hbn
    exact ⟨⟨by omega, fun _ => by rw [← hw]; exact at_behind ha hbn⟩, cover_to hb hbn (by omega) ha (hin a ⟨g1, g2⟩ hlt)⟩
theorem DB_tot {s : ByteArray} {f : Nat} (hf : f < s.size) (hb : born s f = true) (hm : (prt s f).mode = 5) : (bareL (DB s (f + 1) (insT (prt s f)))).size ≤ (prt s f).to - f := by
  obtain ⟨h1, h2, h3, hin⟩ := dq_facts hf hb hm
  have hto := to_gt hb hf
  obtain ⟨n1, n2⟩ := dq_next hf hb hm
  have := rm_tot (s := s) (dbl := true) (sub := subD s) (e := insT (prt s f)) (E := (prt s f).to) (Rch := DqR s f) h1 h2 n1 n2 (fun a hr hlt hbn => by
    unfold subD
    simp [bareL]
    omega) (insT (prt s f) - (f + 1)) (f + 1) ByteArray.empty true h3 (by omega)
  have e0 : (ByteArray.empty).size = 0 := rfl
  unfold DB Rm
  omega
theorem PCs_tot (s : ByteArray) : (bareL (PCs s)).size ≤ s.size := by
  have := rm_tot (s := s) (dbl := false) (sub := subT s) (e := s.size) (E := s.size) (Rch := fun _ => True) (Nat.le_refl _) (Nat.le_refl _) (fun _ _ _ _ => trivial) (fun a _ hlt hbn => ⟨trivial, (prt_le hlt hbn).1⟩) (fun a _ hlt hbn => by
    have hto := to_gt hbn hlt
    have hfr := prt_frm s a
    unfold subT
    split
    · rename_i h5
      exact DB_tot hlt hbn h5
    · split
      · rename_i h4
        have hins := insT_le (prt s a) (z := (prt s a).to) (by rw [hfr]; exact hto) (Nat.le_refl _) (by rcases h4 with e | e <;> rw [e] <;> rfl)
        simp [bareL]
        omega
      · simp [bareL]
        omega) s.size 0 ByteArray.empty false trivial (Nat.zero_le _)
  have e0 : (ByteArray.empty).size = 0 := rfl
  unfold PCs Rm
  simp only [Nat.sub_zero]
  omega
theorem catW_t (l : List Pc) : catW (fun x => x.t) l = bareL l := by
  induction l with
  | nil => rfl
  | cons x l ih => show x.t ++ _ = x.t ++ _; rw [ih]
theorem shP_size (x : Pc) : (shP x).size ≤ 2 * x.t.size := by
  unfold shP
  split
  · omega
  · have h1 := shT_len x.t.data.toList
    unfold Lib.byteCells at h1
    rw [List.length_map] at h1
    show ((shT x.t.data.toList).toArray).size ≤ _
    rw [List.size_toArray, h1]
    simp
theorem catW_size (l : List Pc) : (catW shP l).size ≤ 2 * (bareL l).size := by
  induction l with
  | nil => exact Nat.zero_le _
  | cons x l ih =>
    show (shP x ++ _).size ≤ 2 * (x.t ++ _).size
    rw [ByteArray.size_append, ByteArray.size_append]
    have := shP_size x
    omega
theorem pcOk_t {s : ByteArray} (hs : s.size ≤ 60000) : PcOk (fun x => x.t) (PCs s) := by
  intro pre x rest e
  have := PCs_tot s
  rw [e, bareL_append, ByteArray.size_append] at this
  have e2 : (bareL (x :: rest)).size = x.t.size + (bareL rest).size := by show (x.t ++ bareL rest).size = _; rw [ByteArray.size_append]
  rw [catW_t]
  show x.t.size ≤ 60000 ∧ (bareL pre).size ≤ 400000 ∧ x.t.size ≤ 400000
  omega
theorem pcOk_sh {s : ByteArray} (hs : s.size ≤ 60000) : PcOk shP (PCs s) := by
  intro pre x rest e
  have := PCs_tot s
  rw [e, bareL_append, ByteArray.size_append] at this
  have e2 : (bareL (x :: rest)).size = x.t.size + (bareL rest).size := by show (x.t ++ bareL rest).size = _; rw [ByteArray.size_append]
  have h1 := catW_size pre
  have h2 := shP_size x
  omega
end Go.Proofs.YtiklnlkakhghdaaGreatDoor

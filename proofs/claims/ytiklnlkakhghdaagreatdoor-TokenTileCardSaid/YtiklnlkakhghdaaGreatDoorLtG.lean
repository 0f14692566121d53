/- What told of layer 8 (literal) returns: an iterator of a part's own pieces. Condition: texts of at most 60,000 bytes.
What pieces of layer 8 (literal) returns: an iterator of a text's pieces. Condition: texts of at most 60,000 bytes. -/
import Derived.Test.YtiklnlkakhghdaaGreatDoorLtE
import Derived.Test.YtiklnlkakhghdaaGreatDoorPtIn
namespace Go.Proofs.YtiklnlkakhghdaaGreatDoor
open Go.RowKit Go.Shelf
set_option linter.unusedVariables false

theorem SeqT.any {α : Type} {n m : Nat} {P : Program} {g : Nat} {lb : Array Value} {encs : α → Array Value} {C : Nat → Prop} {L : List α} {W : World} (h : SeqT n P g lb encs C L W) : SeqT m P g lb encs C L W := by
  intro l J Jx hJ hJx hY h0
  exact (callsIn_wide (n := m)).2 ((callsIn_wide (n := n)).1 (h l J Jx hJ hJx (fun pre x rest T W1 e1 e2 e3 => YieldAt.any (hY pre x rest T W1 e1 e2 e3)) h0))
theorem insT_le (p : Prt) {z : Nat} (h1 : p.frm < p.to) (h2 : p.to ≤ z) (hh : headM p.mode = 1) : p.frm + 1 ≤ insT p ∧ insT p ≤ z := by
  unfold insT
  rw [hh]
  repeat' split
  all_goals omega
/-- Quotes are quotes from their beginning. -/
theorem dq_born {s : ByteArray} {f : Nat} : ∀ {k : Nat}, pres s k f = true → md s k f = 5 → md s (f + 1) f = 5
  | 0, h, _ => by have := pres_lt h; omega
  | k + 1, h, hm => by
    rcases Nat.eq_or_lt_of_le (Nat.le_of_lt_succ (pres_lt h)) with e | e
    · subst e; exact hm
    · rcases md_next h e with e2 | e2
      · exact dq_born (pres_back h e) (e2.symm.trans hm)
      · rw [hm] at e2
        unfold turns at e2
        omega
theorem cnt_5 {m : Nat} (h : cnt m = 5) : m = 5 := by
  unfold cnt at h
  repeat' split at h
  all_goals omega
theorem rm_ne {s : ByteArray} {dbl : Bool} {sub : Nat → List Pc} (hs : ∀ a, sub a ≠ []) {e : Nat} : ∀ (k a : Nat) (h : ByteArray), rm s dbl sub e k a h true ≠ []
  | 0, a, h => by unfold rm fl; simp
  | k + 1, a, h => by
    unfold rm
    repeat' split
    · exact rm_ne hs k _ _
    · have := hs a
      simp [this]
    · exact rm_ne hs k _ _
    · unfold fl; simp
theorem DB_ne (s : ByteArray) (f e : Nat) : DB s f e ≠ [] := rm_ne (fun a => by unfold subD; simp) _ _ _
theorem subT_ne (s : ByteArray) (a : Nat) : subT s a ≠ [] := by
  unfold subT
  repeat' split
  · exact DB_ne _ _ _
  · simp
  · simp

section
variable (w : World)
/-- A new row of one piece, as slices.Values hands it on. -/
theorem values_td (mb : Nat) (x : Pc) {w' : World} {g Bx : Nat} (hB : Below w.heap.size w w') (hg : Blk w' g #[.bool x.ex, .bool x.q, .string x.t] 77) (hb : Blk w' Bx #[.slice (some ⟨g, 0, none⟩) 1 1] 74) :
    TdP mb [x] w (.returned (.func (.func 156) #[] #[.pointer (some ⟨Bx, 0, none⟩)])) w' :=
  ⟨_, _, fun _ => False, rfl, hB, enters_of Tryz.func156 (by kernel_rfl) rfl, (fun _ h => h.elim), fun n W hn hW => values_seq n hn Bx g 1 x _ W (hb.below hW) (hg.below hW) rfl rfl rfl⟩
set_option maxRecDepth 100000 in
set_option maxHeartbeats 4000000 in
theorem told_exp (s : ByteArray) (hs : s.size ≤ 60000) (mb m f t : Nat) (up : Int) (op dbl : Bool) (h1 : f < t) (h2 : t ≤ s.size) (hm : m ≠ 4 ∧ m ≠ 5 ∧ m ≠ 13) :
    Calls Tryz.prog 124 #[.agg #[.string s, .map (some mb)], .agg #[.int .i64 (m : Int), .int .i64 (f : Int), .int .i64 (t : Int), .int .i64 up, .bool op], .bool dbl] w (TdP mb [⟨true, dbl, s.extract f t⟩] w) := by
  have t4 : ((m : Int) == 4) = false := beq_eq_false_iff_ne.2 (by omega)
  have t5 : ((m : Int) == 5) = false := beq_eq_false_iff_ne.2 (by omega)
  have t13 : ((m : Int) == 13) = false := beq_eq_false_iff_ne.2 (by omega)
  obtain ⟨X, hX⟩ : ∃ X, s.extract f t = X := ⟨_, rfl⟩
  rw [hX]
  have b1 : (f : Int) ≤ (t : Int) := by omega
  have b2 : (t : Int) ≤ (s.size : Int) := by omega
  have hIN := Lib.hid (fun W => inside_any W m f t up op (by omega) (by omega))
  have hw2 : Below w.heap.size w ((w.alloc (.cells #[.string s, .map (some mb)] 138)).alloc (.cells #[.int .i64 (m : Int), .int .i64 (f : Int), .int .i64 (t : Int), .int .i64 up, .bool op] 93)) := ((Below.refl _ _).alloc (Nat.le_refl _) _).alloc (by simp) _
  have kr := (Blk.new w #[.string s, .map (some mb)] 138).alloc (.cells #[.int .i64 (m : Int), .int .i64 (f : Int), .int .i64 (t : Int), .int .i64 up, .bool op] 93)
  have kp := Blk.new (w.alloc (.cells #[.string s, .map (some mb)] 138)) #[.int .i64 (m : Int), .int .i64 (f : Int), .int .i64 (t : Int), .int .i64 up, .bool op] 93
  rw [World.size_alloc] at kp
  go_enter Tryz.func124, Tryz.ntmps124
  go_wp2_with fail
  refine (hIN.out _).mono ?_
  rintro e w1 ⟨rfl, hB1⟩
  have kr1 := kr.below hB1
  have kp1 := kp.below hB1
  have hB2 : Below w.heap.size w w1 := hw2.trans (hB1.mono (by simp; omega))
  have lr := kr1.lt
  have lp := kp1.lt
  have r0 := kr1.cell 0
  have r1 := kr1.cell 1
  have p0 := kp1.cell 0
  have p1 := kp1.cell 1
  have p2 := kp1.cell 2
  clear kr kp hw2 hB1
  have kg := (Blk.new w1 #[.bool true, .bool dbl, .string X] 77).alloc (.cells #[.slice (some ⟨w1.heap.size, 0, none⟩) 1 1] 74)
  have kb := Blk.new (w1.alloc (.cells #[.bool true, .bool dbl, .string X] 77)) #[.slice (some ⟨w1.heap.size, 0, none⟩) 1 1] 74
  have hB9 : Below w.heap.size w ((w1.alloc (.cells #[.bool true, .bool dbl, .string X] 77)).alloc (.cells #[.slice (some ⟨w1.heap.size, 0, none⟩) 1 1] 74)) := (hB2.alloc hB2.size _).alloc (by have := hB2.size; simp; omega) _
  rw [World.size_alloc] at kb
  have HTD := Lib.hid (values_td w mb ⟨true, dbl, X⟩ hB9 kg kb)
  clear kg kb hB9
  go_wp2_with fail
  refine ((callsIn_wide (n := 1)).1 (values_in 1 _ 1 1 _)).mono ?_
  rintro e w2 ⟨rfl, rfl⟩
  go_wp2
  go_ret
  exact HTD.out
set_option maxRecDepth 100000 in
set_option maxHeartbeats 4000000 in
theorem told_quo (s : ByteArray) (hs : s.size ≤ 60000) (mb m f t : Nat) (up : Int) (op dbl : Bool) (h1 : f < t) (h2 : t ≤ s.size) (hm : m = 4 ∨ m = 13) :
    Calls Tryz.prog 124 #[.agg #[.string s, .map (some mb)], .agg #[.int .i64 (m : Int), .int .i64 (f : Int), .int .i64 (t : Int), .int .i64 up, .bool op], .bool dbl] w (TdP mb [⟨false, true, s.extract (f + 1) (insT ⟨m, f, t, up, op⟩)⟩] w) := by
  have hm1 : headM m = 1 := by rcases hm with rfl | rfl <;> rfl
  have hins := insT_le ⟨m, f, t, up, op⟩ h1 h2 hm1
  obtain ⟨T, hT⟩ : ∃ T, insT ⟨m, f, t, up, op⟩ = T := ⟨_, rfl⟩
  have t5 : ((m : Int) == 5) = false := beq_eq_false_iff_ne.2 (by omega)
  rw [hT] at hins ⊢
  simp only at hins
  obtain ⟨X, hX⟩ : ∃ X, s.extract (f + 1) T = X := ⟨_, rfl⟩
  rw [hX]
  obtain ⟨f1, hf1⟩ : ∃ f1, f + 1 = f1 := ⟨_, rfl⟩
  have b1 : (f1 : Int) ≤ (T : Int) := by omega
  have b2 : (T : Int) ≤ (s.size : Int) := by omega
  rw [hf1] at hX
  have hIN := Lib.hid (fun W => inside_any W m f t up op (by omega) (by omega))
  rw [hm1, hT, hf1] at hIN
  have HF := Lib.hid hf1
  have HTT := Lib.hid hT
  have HM1 := Lib.hid hm1
  have hw2 : Below w.heap.size w ((w.alloc (.cells #[.string s, .map (some mb)] 138)).alloc (.cells #[.int .i64 (m : Int), .int .i64 (f : Int), .int .i64 (t : Int), .int .i64 up, .bool op] 93)) := ((Below.refl _ _).alloc (Nat.le_refl _) _).alloc (by simp) _
  have kr := (Blk.new w #[.string s, .map (some mb)] 138).alloc (.cells #[.int .i64 (m : Int), .int .i64 (f : Int), .int .i64 (t : Int), .int .i64 up, .bool op] 93)
  have kp := Blk.new (w.alloc (.cells #[.string s, .map (some mb)] 138)) #[.int .i64 (m : Int), .int .i64 (f : Int), .int .i64 (t : Int), .int .i64 up, .bool op] 93
  rw [World.size_alloc] at kp
  clear hf1 hT hm1 hins
  rcases hm with rfl | rfl
  all_goals
    go_enter Tryz.func124, Tryz.ntmps124
    go_wp2_with fail
    refine (hIN.out _).mono ?_
    rintro e w1 ⟨rfl, hB1⟩
    have kr1 := kr.below hB1
    have kp1 := kp.below hB1
    have hB2 : Below w.heap.size w w1 := hw2.trans (hB1.mono (by simp; omega))
    have lr := kr1.lt
    have lp := kp1.lt
    have r0 := kr1.cell 0
    have r1 := kr1.cell 1
    have p0 := kp1.cell 0
    have p1 := kp1.cell 1
    have p2 := kp1.cell 2
    clear kr kp hw2 hB1
    have kg := (Blk.new w1 #[.bool false, .bool true, .string X] 77).alloc (.cells #[.slice (some ⟨w1.heap.size, 0, none⟩) 1 1] 74)
    have kb := Blk.new (w1.alloc (.cells #[.bool false, .bool true, .string X] 77)) #[.slice (some ⟨w1.heap.size, 0, none⟩) 1 1] 74
    have hB9 : Below w.heap.size w ((w1.alloc (.cells #[.bool false, .bool true, .string X] 77)).alloc (.cells #[.slice (some ⟨w1.heap.size, 0, none⟩) 1 1] 74)) := (hB2.alloc hB2.size _).alloc (by have := hB2.size; simp; omega) _
    rw [World.size_alloc] at kb
    have HTD := Lib.hid (values_td w mb ⟨false, true, X⟩ hB9 kg kb)
    clear kg kb hB9
    go_wp2_with fail
    refine ((callsIn_wide (n := 1)).1 (values_in 1 _ 1 1 _)).mono ?_
    rintro e w2 ⟨rfl, rfl⟩
    go_wp2
    go_ret
    exact HTD.out

/-- The pieces of a Double's inside, yielded. -/
theorem double_seq (n : Nat) (hn : 1 ≤ n) (s : ByteArray) (hs : s.size ≤ 60000) (f : Nat) (hf : f < s.size) (hb : born s f = true) (hm : (prt s f).mode = 5) (mb Bd Bf Bt Br : Nat) (W : World) (hcap : Cap W Bd Bt Br mb s true (insT (prt s f))) (hbf : Blk W Bf #[.int .i64 ((f + 1 : Nat) : Int)] 3) :
    SeqT n Tryz.prog 121 #[.pointer (some ⟨Bd, 0, none⟩), .pointer (some ⟨Bf, 0, none⟩), .pointer (some ⟨Bt, 0, none⟩), .pointer (some ⟨Br, 0, none⟩)] encC (CapC Bd Bt Br mb) (DB s (f + 1) (insT (prt s f))) W := by
  have hto := to_gt hb hf
  have hle := (prt_le hf hb).1
  have hfr := prt_frm s f
  have hins := insT_le (prt s f) (by rw [hfr]; exact hto) hle (by rw [hm]; rfl)
  rw [hfr] at hins
  have h5 : md s (f + 1) f = 5 := dq_born (eK_pres2 hb hf) (cnt_5 (by rw [← prt_mo hb hf]; exact hm))
  have hB : nt s (f + 1) = (5, f) :: blw s f := by have := born_split hb; rw [h5] at this; exact this
  -- within the quotes they go on
  have hin : ∀ x, f + 1 ≤ x → x < insT (prt s f) → pres s (x + 1) f = true := by
    intro x h1 h2
    have h2' := h2
    have hpe := prt_eq hb hf
    have h12 : ¬ cnt (md s (eK s f s.size) f) = 12 := by rw [← prt_mo hb hf, hm]; decide
    rw [if_neg h12] at hpe
    refine eK_pres (k := s.size) (by omega) ?_
    have hel := eK_le s (f := f) (k := s.size) (Nat.le_of_lt hf)
    rw [hpe] at h2
    have hm5 : cnt (md s (eK s f s.size) f) = 5 := by rw [← prt_mo hb hf]; exact hm
    unfold insT at h2
    simp only [hm5] at h2
    have e1 : headM 5 = 1 := rfl
    have e2 : tailM 5 = 1 := rfl
    rw [e1, e2] at h2
    by_cases hE : eK s f s.size = s.size
    · omega
    · rw [if_neg hE] at h2
      have : decide (eK s f s.size = s.size) = false := decide_eq_false hE
      rw [this] at h2
      simp at h2
      repeat' split at h2
      all_goals omega
  refine SeqT.any (n := 3) ?_
  refine between_seq 3 (Nat.le_refl _) s hs true (f + 1) (insT (prt s f)) (by omega) hins.2 (subD s) (fun x => f + 1 ≤ x ∧ (x < insT (prt s f) → AtB s x ((5, f) :: blw s f))) ⟨Nat.le_refl _, fun _ _ => .inl hB⟩ ?_ ?_ mb Bd Bf Bt Br W hcap hbf (fun a => by unfold subD; simp) ?_
  · rintro a ⟨h1, h2⟩ hlt hbn
    exact ⟨by omega, fun _ _ => .inl ((h2 hlt).none (.inr ⟨f, _, rfl, hin a h1 hlt⟩) (by omega) hbn)⟩
  · rintro a ⟨h1, h2⟩ hlt hbn
    have ha : a < s.size := by omega
    have := to_gt hbn ha
    have hw := (h2 hlt).born (.inr ⟨f, _, rfl, hin a h1 hlt⟩) ha hbn
    exact ⟨by omega, fun _ => by rw [← hw]; exact at_behind ha hbn⟩
  · rintro a w ⟨h1, h2⟩ hlt hbn hit hmp
    have ha : a < s.size := by omega
    have h4 := double_at (h2 hlt) ha (hin a h1 hlt) hbn
    have hne : (prt s a).mode ≠ 13 := by
      intro e
      unfold itself at hit
      rw [if_neg (by omega), if_neg (by omega), if_pos e] at hit
      repeat' split at hit
      all_goals first | (cases hit; done) | (rename_i hh; simp at hh)
    have h5 := told_exp w s hs mb (prt s a).mode (prt s a).frm (prt s a).to (prt s a).up (prt s a).op true (by rw [prt_frm]; exact to_gt hbn ha) (prt_le ha hbn).1 ⟨h4.2.1, h4.2.2.1, hne⟩
    rw [show subD s a = [⟨true, true, s.extract (prt s a).frm (prt s a).to⟩] by unfold subD; rw [prt_frm]]
    exact h5
set_option maxRecDepth 100000 in
set_option maxHeartbeats 4000000 in
theorem told_dq (s : ByteArray) (hs : s.size ≤ 60000) (mb f : Nat) (hf : f < s.size) (hb : born s f = true) (hm : (prt s f).mode = 5) (dbl : Bool) (hmp : MapP w mb s) :
    Calls Tryz.prog 124 #[.agg #[.string s, .map (some mb)], .agg #[.int .i64 ((prt s f).mode : Int), .int .i64 ((prt s f).frm : Int), .int .i64 ((prt s f).to : Int), .int .i64 (prt s f).up, .bool (prt s f).op], .bool dbl] w (TdP mb (DB s (f + 1) (insT (prt s f))) w) := by
  have hto := to_gt hb hf
  have hle := (prt_le hf hb).1
  have hfr := prt_frm s f
  have hDS := Lib.hid (fun n hn Bd Bf Bt Br W h1 h2 => double_seq n hn s hs f hf hb hm mb Bd Bf Bt Br W h1 h2)
  obtain ⟨p, hp⟩ : ∃ p, prt s f = p := ⟨_, rfl⟩
  rw [hp] at hto hle hfr hm hDS ⊢
  obtain ⟨m, f', t, up, op⟩ := p
  simp only at hto hle hfr hm hDS ⊢
  subst hm hfr
  obtain ⟨T, hT⟩ : ∃ T, insT ⟨5, f', t, up, op⟩ = T := ⟨_, rfl⟩
  rw [hT] at hDS ⊢
  obtain ⟨f1, hf1⟩ : ∃ f1, f' + 1 = f1 := ⟨_, rfl⟩
  rw [hf1] at hDS ⊢
  have hIN := Lib.hid (fun W => inside_any W 5 f' t up op (by omega) (by omega))
  rw [show headM 5 = 1 from rfl, hT, hf1] at hIN
  have HF := Lib.hid hf1
  have HT := Lib.hid hT
  have HP := Lib.hid hp
  clear hf1 hT hp
  have hw2 : Below w.heap.size w ((w.alloc (.cells #[.string s, .map (some mb)] 138)).alloc (.cells #[.int .i64 ((5 : Nat) : Int), .int .i64 (f' : Int), .int .i64 (t : Int), .int .i64 up, .bool op] 93)) := ((Below.refl _ _).alloc (Nat.le_refl _) _).alloc (by simp) _
  have kr := (Blk.new w #[.string s, .map (some mb)] 138).alloc (.cells #[.int .i64 ((5 : Nat) : Int), .int .i64 (f' : Int), .int .i64 (t : Int), .int .i64 up, .bool op] 93)
  have kp := Blk.new (w.alloc (.cells #[.string s, .map (some mb)] 138)) #[.int .i64 ((5 : Nat) : Int), .int .i64 (f' : Int), .int .i64 (t : Int), .int .i64 up, .bool op] 93
  rw [World.size_alloc] at kp
  go_enter Tryz.func124, Tryz.ntmps124
  go_wp2_with fail
  refine (hIN.out _).mono ?_
  rintro e w1 ⟨rfl, hB1⟩
  have kr1 := kr.below hB1
  have kp1 := kp.below hB1
  have hB2 : Below w.heap.size w w1 := hw2.trans (hB1.mono (by simp; omega))
  have hm1 : MapP w1 mb s := by obtain ⟨k, hk⟩ := hmp; exact ⟨k, hk.same (hB2.block mb hk.lt)⟩
  have lr := kr1.lt
  have lp := kp1.lt
  have r0 := kr1.cell 0
  have r1 := kr1.cell 1
  have p0 := kp1.cell 0
  have HBT := Lib.hid (between_any s mb f1 T true w1 hm1)
  clear kr kp hw2 hB1
  go_wp2_with fail
  refine (HBT.out).mono ?_
  rintro e w2 ⟨Bd, Bf, Bt, Br, rfl, hB3, hc3, hf3, g1, g2, g3, g4⟩
  have hB4 : Below w.heap.size w w2 := hB2.trans (hB3.mono hB2.size)
  have hsz := hB2.size
  have HTD : Hid (TdP mb (DB s f1 T) w (.returned (.func (.func 121) #[] #[.pointer (some ⟨Bd, 0, none⟩), .pointer (some ⟨Bf, 0, none⟩), .pointer (some ⟨Bt, 0, none⟩), .pointer (some ⟨Br, 0, none⟩)])) w2) := Lib.hid (by
    refine ⟨_, _, CapC Bd Bt Br mb, rfl, hB4, enters_of Tryz.func121 (by kernel_rfl) rfl, fun b hb => ⟨hc3.lt b hb, ?_⟩, fun n W hn hW => ?_⟩
    · rcases hb with rfl | rfl | rfl | rfl
      · right; omega
      · right; omega
      · right; omega
      · exact .inl rfl
    · exact hDS.out n hn Bd Bf Bt Br W (hc3.same (fun b hb => hW.block b (hc3.lt b hb))) (hf3.below hW))
  clear hc3 hf3
  go_wp2
  go_ret
  exact HTD.out
end
end Go.Proofs.YtiklnlkakhghdaaGreatDoor
namespace Go.Proofs.YtiklnlkakhghdaaGreatDoor
open Go.RowKit Go.Shelf
set_option linter.unusedVariables false

theorem top_seq (n : Nat) (hn : 1 ≤ n) (s : ByteArray) (hs : s.size ≤ 60000) (mb Bd Bf Bt Br : Nat) (W : World) (hcap : Cap W Bd Bt Br mb s false s.size) (hbf : Blk W Bf #[.int .i64 ((0 : Nat) : Int)] 3) :
    SeqT n Tryz.prog 121 #[.pointer (some ⟨Bd, 0, none⟩), .pointer (some ⟨Bf, 0, none⟩), .pointer (some ⟨Bt, 0, none⟩), .pointer (some ⟨Br, 0, none⟩)] encC (CapC Bd Bt Br mb) (PCs s) W := by
  refine SeqT.any (n := 3) ?_
  refine between_seq 3 (Nat.le_refl _) s hs false 0 s.size (Nat.zero_le _) (Nat.le_refl _) (subT s) (fun _ => True) trivial (fun _ _ _ _ => trivial) (fun _ _ _ _ => trivial) mb Bd Bf Bt Br W hcap hbf (subT_ne s) ?_
  intro a w _ ha hbn hit hmp
  have hfr := prt_frm s a
  have h1 : (prt s a).frm < (prt s a).to := by rw [hfr]; exact to_gt hbn ha
  have h2 := (prt_le ha hbn).1
  by_cases h5 : (prt s a).mode = 5
  · have := told_dq w s hs mb a ha hbn h5 false hmp
    rw [show subT s a = DB s (a + 1) (insT (prt s a)) by unfold subT; rw [if_pos h5]]
    exact this
  by_cases h4 : (prt s a).mode = 4 ∨ (prt s a).mode = 13
  · have := told_quo w s hs mb (prt s a).mode (prt s a).frm (prt s a).to (prt s a).up (prt s a).op false h1 h2 h4
    rw [show subT s a = [⟨false, true, s.extract ((prt s a).frm + 1) (insT (prt s a))⟩] by unfold subT; rw [if_neg h5, if_pos h4, hfr]]
    exact this
  · have := told_exp w s hs mb (prt s a).mode (prt s a).frm (prt s a).to (prt s a).up (prt s a).op false h1 h2 (by omega)
    rw [show subT s a = [⟨true, false, s.extract (prt s a).frm (prt s a).to⟩] by unfold subT; rw [if_neg h5, if_neg h4, hfr]]
    exact this

/-- The first i parts of a text, by their places. -/
def qI (s : ByteArray) (i a : Nat) : Option Prt := if (a < s.size ∧ born s a = true) ∧ idx s a < i then some (prt s a) else none
theorem qI_zero (s : ByteArray) (a : Nat) : (none : Option Prt) = qI s 0 a := by unfold qI; rw [if_neg (by omega)]
theorem qI_succ {s : ByteArray} {i f : Nat} (h : (bornL s s.size)[i]? = some f) (a : Nat) : (if a = (prt s f).frm then some (prt s f) else qI s i a) = qI s (i + 1) a := by
  obtain ⟨h1, h2, h3⟩ := idx_get h
  rw [prt_frm]
  unfold qI
  by_cases e : a = f
  · subst e
    rw [if_pos rfl, if_pos ⟨⟨h2, h3⟩, by omega⟩]
  · rw [if_neg e]
    by_cases hb : a < s.size ∧ born s a = true
    · have hne : idx s a ≠ i := by
        intro e2
        rcases Nat.lt_or_gt_of_ne e with g | g
        · have := idx_mono hb.2 g; omega
        · have := idx_mono h3 g; omega
      by_cases g : idx s a < i
      · rw [if_pos ⟨hb, g⟩, if_pos ⟨hb, by omega⟩]
      · rw [if_neg (by omega), if_neg (by omega)]
    · rw [if_neg (fun h => hb h.1), if_neg (fun h => hb h.1)]
theorem qI_all (s : ByteArray) (a : Nat) : qI s (PL s).length a = qB s s.size a := by
  unfold qI qB PL
  rw [List.length_map]
  by_cases hb : a < s.size ∧ born s a = true
  · rw [if_pos ⟨hb, idx_lt hb.2 hb.1⟩, if_pos hb]
  · rw [if_neg (fun h => hb h.1), if_neg hb]

def PiRl (s : ByteArray) (mb n : Nat) (w : World) (v12 : Value) (wr : World) : Prop := ∃ i : Nat, i ≤ n ∧ v12 = .int .i64 (i : Int) ∧ MapQ wr mb i (qI s i) ∧ Frm (fun b => b = mb) w wr
section
variable (w : World)
set_option maxRecDepth 100000 in
set_option maxHeartbeats 4000000 in
theorem pieces_any (s : ByteArray) (hs : s.size ≤ 60000) :
    Calls Tryz.prog 78 #[.string s] w fun e w' => ∃ mb Bd Bf Bt Br, e = .returned (.func (.func 121) #[] #[.pointer (some ⟨Bd, 0, none⟩), .pointer (some ⟨Bf, 0, none⟩), .pointer (some ⟨Bt, 0, none⟩), .pointer (some ⟨Br, 0, none⟩)]) ∧ Below w.heap.size w w' ∧
      Cap w' Bd Bt Br mb s false s.size ∧ Blk w' Bf #[.int .i64 ((0 : Nat) : Int)] 3 ∧ ∀ b, CapC Bd Bt Br mb b → w.heap.size ≤ b := by
  have hmm := @run_makeMap Tryz.prog
  have kM := (MapQ.made w).same (W' := (w.alloc (.map #[] 0)).alloc (.cells #[.string s, .map (some w.heap.size)] 138)) (Below.heap_alloc _ _ _ (by simp))
  have kr := Blk.new (w.alloc (.map #[] 0)) #[.string s, .map (some w.heap.size)] 138
  rw [World.size_alloc] at kr
  have hB0 : Below w.heap.size w ((w.alloc (.map #[] 0)).alloc (.cells #[.string s, .map (some w.heap.size)] 138)) := ((Below.refl _ w).alloc (Nat.le_refl _) _).alloc (by simp) _
  have HOF := Lib.hid (fun W => of_parts_any W s (by omega))
  go_enter Tryz.func78, Tryz.ntmps78
  go_wp2_with fail
  obtain ⟨W1, hW1⟩ : ∃ X, (w.alloc (.map #[] 0)).alloc (.cells #[.string s, .map (some w.heap.size)] 138) = X := ⟨_, rfl⟩
  have zW1 : W1.heap.size = w.heap.size + 2 := by rw [← hW1]; simp
  rw [hW1] at kM kr hB0 ⊢
  clear hW1
  refine (HOF.out _).mono ?_
  rintro e w1 ⟨⟨v, rfl, hP⟩, hB1⟩
  have hk1 : MapQ w1 w.heap.size 0 (qI s 0) := (kM.same (hB1.block _ kM.lt)).ext (fun a => qI_zero s a)
  have hr1 := kr.below hB1
  have hB2 : Below w.heap.size w w1 := hB0.trans (hB1.mono hB0.size)
  have hz1 : w.heap.size + 2 ≤ w1.heap.size := by rw [← zW1]; exact hB1.size
  obtain ⟨mb, hmb⟩ : ∃ m, w.heap.size = m := ⟨_, rfl⟩
  have HMB := Lib.hid hmb
  have hpge : ∀ k, v.ownBlock = some k → mb < k := fun k hk => by
    have := own_ge (show w1.ownsRow W1.heap.size 93 5 v (PL s).length (cellsP (PL s)) from hP) k hk
    omega
  rw [hmb] at hk1 hr1 ⊢
  obtain ⟨oa, n, oc, rfl, hRd⟩ := hP.read
  have hnl : n ≤ 60000 := by have h1 := hRd.len; have h2 := PL_len s; omega
  have HN := Lib.hid hRd.len
  have HPP := Lib.hid hP
  have HPG := Lib.hid hpge
  have HR1 := Lib.hid hr1
  clear hRd hP hpge kM kr
  go_wp2
  go_loopw [12] (fun v12 wr => PiRl s mb n w1 v12 wr) (fun v _ => n - (intOf v).toNat)
  case atStart => exact ⟨0, Nat.zero_le _, rfl, hk1, Frm.refl _ _⟩
  case round =>
    obtain ⟨i, hi, rfl, hq, hF⟩ := hrel
    have hr2 := HR1.out.frm hF (by omega)
    have r1 := hr2.cell 1
    have lr := hr2.lt
    have hsz := hF.size
    have hPr : PtS wr W1.heap.size (.slice oa n oc) (PL s) := own_frm hF HPP.out (fun k hk e => by have := HPG.out k hk; omega)
    by_cases hlt : (i : Int) < (n : Int)
    · have hlt' : i < n := by omega
      have q0 : (0 : Int) ≤ (i : Int) := by omega
      obtain ⟨oa2, n2, oc2, e2, hRd⟩ := hPr.read
      injection e2 with e3 e4 e5
      subst e3 e4 e5
      obtain ⟨ob, p, rfl, hp, _, a0, a1, a2, a3, a4⟩ := hRd.at hlt'
      obtain ⟨f0, hf0, hpe, hf1, _, hpf, hpt, _⟩ := PL_get hp
      have hqn : ∀ W' k, MapQ W' mb k (fun b => if b = p.frm then some p else qI s i b) → MapQ W' mb k (qI s (i + 1)) := fun W' k h => h.ext (fun b => by rw [hpe]; exact qI_succ hf0 b)
      have HQN := Lib.hid hqn
      have hpl : p.frm ≤ 1000000 := by omega
      have hil : i ≤ 1000000 := by omega
      clear hp hf0 hpe hf1 hpf hpt hqn hRd
      have hqa := hq.same (W' := wr.alloc (.cells #[.int .i64 (p.mode : Int), .int .i64 (p.frm : Int), .int .i64 (p.to : Int), .int .i64 p.up, .bool p.op] 93)) (Below.heap_alloc wr _ mb hq.lt)
      have hFa := hF.alloc (.cells #[.int .i64 (p.mode : Int), .int .i64 (p.frm : Int), .int .i64 (p.to : Int), .int .i64 p.up, .bool p.op] 93)
      go_wp2_with (at_mapUpdate; refine step_put rfl _ _ _ rfl rfl hqa hil p rfl hpl rfl ?_; intro w7 hq7 hg7)
      go_roundw
      case rel => exact ⟨i + 1, by omega, by go_num, HQN.out _ _ hq7, hFa.grown hg7 (fun k hk => by cases hk; exact .inl rfl)⟩
      case measure => simp [intOf]; omega
    · obtain rfl : i = n := by omega
      have hmp : MapP wr mb s := ⟨i, hq.ext (fun a => by rw [HN.out]; exact qI_all s a)⟩
      have HBT := Lib.hid (between_any s mb 0 s.size false wr hmp)
      have r0 := hr2.cell 0
      clear hq
      go_wp2_with fail
      refine (HBT.out).mono ?_
      rintro e w2 ⟨Bd, Bf, Bt, Br, rfl, hB3, hc3, hf3, g1, g2, g3, g4⟩
      have hBw : Below w.heap.size w w2 := by
        have h5 : Below w.heap.size w wr := hB2.trans (hF.below (n := w.heap.size) hB2.size (fun k hk => by rw [HMB.out]; omega))
        exact h5.trans (hB3.mono h5.size)
      have HC3 := Lib.hid hc3
      have HF3 := Lib.hid hf3
      clear hc3 hf3
      go_wp2
      go_ret
      refine ⟨mb, Bd, Bf, Bt, Br, rfl, hBw, HC3.out, HF3.out, fun b hb => ?_⟩
      have := HMB.out
      have := hB2.size
      rcases hb with rfl | rfl | rfl | rfl <;> omega
end
end Go.Proofs.YtiklnlkakhghdaaGreatDoor

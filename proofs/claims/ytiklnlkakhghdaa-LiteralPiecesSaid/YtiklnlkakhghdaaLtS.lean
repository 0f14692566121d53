/- What the document's own Double of layer 8 (literal) returns. Condition: texts of at most 60,000 bytes. -/
import Derived.Test.YtiklnlkakhghdaaLtR
namespace Go.Proofs.Ytiklnlkakhghdaa
open Go.RowKit
set_option linter.unusedVariables false

theorem le_yes8 {x : ByteArray} (h : x.size = 0) : x.toList = [] := by
  rw [Go.ByteArray.toList_eq]
  have : x = ByteArray.empty := ByteArray.ext (Array.eq_empty_of_size_eq_zero h)
  subst this
  rfl
theorem le_no8 {x : ByteArray} (h : x.size ≠ 0) : ¬ x.toList = [] := by
  intro e
  have h1 := Go.ByteArray.toList_eq x
  rw [e] at h1
  have h2 : x.data.toList.length = 0 := by rw [← h1]; rfl
  rw [Array.length_toList] at h2
  exact h h2
theorem le_iyes8 {x : ByteArray} (h : x.size = 0) : x.toList.isEmpty = true := by rw [le_yes8 h]; rfl
theorem le_ino8 {x : ByteArray} (h : x.size ≠ 0) : x.toList.isEmpty = false := by
  cases g : x.toList.isEmpty with
  | false => rfl
  | true => exact absurd (List.isEmpty_iff.1 g) (le_no8 h)

theorem blk_new2 (W : World) (o : Obj) (cs : Array Value) (ty : TypeId) : Blk ((W.alloc o).alloc (.cells cs ty)) (W.heap.size + 1) cs ty := by
  have := Blk.new (W.alloc o) cs ty
  rwa [World.size_alloc] at this
/-- Where the scan of a Double's inside stands: the pieces that came, what stands for itself behind them. -/
structure DbI (s : ByteArray) (f a : Nat) (A : List Pc) (h : ByteArray) : Prop where
  dq : DqR s f a
  le : a ≤ s.size
  eq : DB s (f + 1) (insT (prt s f)) = A ++ Rm s true (subD s) (insT (prt s f)) a h A.isEmpty
  hz : h.size ≤ a
  az : A.length ≤ 2 * a
section
variable {s : ByteArray} {f : Nat} (hf : f < s.size) (hb : born s f = true) (hm : (prt s f).mode = 5)
include hf hb hm
theorem DbI.start : DbI s f (f + 1) [] ByteArray.empty := by
  obtain ⟨h1, h2, h3, _⟩ := dq_facts hf hb hm
  exact ⟨h3, by omega, rfl, Nat.zero_le _, Nat.zero_le _⟩
theorem DbI.lt {a : Nat} {A : List Pc} {h : ByteArray} (I : DbI s f a A h) (ha : a < insT (prt s f)) : a < s.size := by
  have := (dq_facts hf hb hm).1
  omega
variable {a : Nat} {A : List Pc} {h : ByteArray} (I : DbI s f a A h) (ha : a < insT (prt s f))
include I ha
theorem DbI.plain (hB : born s a = false) : DbI s f (a + 1) A (h ++ s.extract a (a + 1)) := by
  have hl := I.lt hf hb hm ha
  refine ⟨(dq_next hf hb hm).1 a I.dq ha hB, by omega, ?_, ?_, by have := I.az; omega⟩
  · rw [I.eq, Rm_plain (dq_facts hf hb hm).1 ha hB]
  · rw [ByteArray.size_append, ext_size (by omega)]
    have := I.hz
    omega
theorem DbI.self (hB : born s a = true) {t : ByteArray} (ht : itself s (prt s a) true = some t) : DbI s f (prt s a).to A (h ++ t) := by
  have hl := I.lt hf hb hm ha
  have hg := to_gt hB hl
  refine ⟨((dq_next hf hb hm).2 a I.dq ha hB).1, (prt_le hl hB).1, ?_, ?_, by have := I.az; omega⟩
  · rw [I.eq, Rm_self (dq_facts hf hb hm).1 ha hB ht]
  · rw [ByteArray.size_append]
    have := itself_size2 ht
    rw [prt_frm] at this
    have := I.hz
    omega
theorem DbI.sub (hB : born s a = true) (ht : itself s (prt s a) true = none) : DbI s f (prt s a).to (A ++ fl true h false ++ [⟨true, true, s.extract a (prt s a).to⟩]) ByteArray.empty := by
  have hl := I.lt hf hb hm ha
  have hg := to_gt hB hl
  refine ⟨((dq_next hf hb hm).2 a I.dq ha hB).1, (prt_le hl hB).1, ?_, Nat.zero_le _, ?_⟩
  · rw [I.eq, Rm_sub (dq_facts hf hb hm).1 ha hB ht]
    have : (A ++ fl true h false ++ [(⟨true, true, s.extract a (prt s a).to⟩ : Pc)]).isEmpty = false := by
      rw [List.isEmpty_eq_false_iff]
      simp
    rw [this, List.append_assoc, List.append_assoc]
    rfl
  · have := I.az
    rw [List.length_append, List.length_append]
    have : (fl true h false).length ≤ 1 := by unfold fl; split <;> simp
    simp only [List.length_cons, List.length_nil]
    omega
/-- The modes that come. -/
theorem DbI.modes (hB : born s a = true) : (prt s a).mode ≠ 4 ∧ (prt s a).mode ≠ 5 ∧ (prt s a).mode ≠ 14 := (double_at (I.dq.2 ha) (I.lt hf hb hm ha) ((dq_facts hf hb hm).2.2.2 a I.dq ha) hB).2
end
def DbRl (s : ByteArray) (f : Nat) (w : World) (v9 v10 v11 : Value) (wr : World) : Prop := ∃ (a : Nat) (A : List Pc) (h : ByteArray), v11 = .int .i64 (a : Int) ∧ v10 = .string h ∧ DbI s f a A h ∧ PcS wr w.heap.size v9 A ∧ Below w.heap.size w wr
section
variable (w : World)
set_option maxRecDepth 100000 in
set_option maxHeartbeats 16000000 in
theorem double_any (s : ByteArray) (hs : s.size ≤ 60000) (f : Nat) (hf : f < s.size) (hb : born s f = true) (hm : (prt s f).mode = 5) (oa : Option Addr) (n oc : Nat) (hR : RdP w oa n (PL s)) (hn : n ≤ 60000) (f1 e1 : Nat) (hf1 : f1 = f + 1) (he1 : e1 = insT (prt s f)) :
    Calls Try.prog 22 #[.string s, .slice oa n oc, .int .i64 (f1 : Int), .int .i64 (e1 : Int)] w fun e w' => ∃ v, e = .returned v ∧ PcS w' w.heap.size v (DB s (f + 1) (insT (prt s f))) ∧ Below w.heap.size w w' := by
  have hins := (dq_facts hf hb hm).1
  have hst := DbI.start hf hb hm
  have HR := Lib.hid hR
  have HF1 := Lib.hid hf1
  have HE1 := Lib.hid he1
  have he1l : e1 ≤ 60000 := by omega
  have hf1l : f1 ≤ 60000 := by omega
  clear hR hf1 he1 hins
  go_enter Try.func22, Try.ntmps22
  go_wp2
  go_loopw [9, 10, 11] (fun v9 v10 v11 wr => DbRl s f w v9 v10 v11 wr) (fun _ _ v _ => e1 - (intOf v).toNat)
  case atStart => exact ⟨f1, [], _, rfl, rfl, by rw [HF1.out]; exact hst, World.ownsRow_nil _ _ _ _, Below.refl _ _⟩
  case round =>
    obtain ⟨a, A, h, rfl, rfl, hI, hP, hB⟩ := hrel
    have hRd := HR.out.below hB
    have hsz := hB.size
    have hhz := hI.hz
    have haz := hI.az
    have hale := hI.le
    obtain ⟨xa, xc, rfl⟩ := owns_slice hP
    obtain ⟨z, hz⟩ : ∃ z, A.length = z := ⟨_, rfl⟩
    rw [hz] at hP ⊢
    have hPz : wr.ownsRow w.heap.size 26 3 (.slice xa z xc) z (cellsC A) := by have := hP; unfold PcS at this; rw [hz] at this; exact this
    have HPZ := Lib.hid hPz
    clear hPz
    have HP := Lib.hid hP
    by_cases hlt : (a : Int) < (e1 : Int)
    · have hlt' : a < insT (prt s f) := by have := HE1.out; omega
      have hl := hI.lt hf hb hm hlt'
      have hfi := find_any wr s oa n oc a hRd hn (by omega)
      have HFI := Lib.hid hfi
      have q0 : (0 : Int) ≤ (a : Int) := by omega
      have q1 : (a : Int) + 1 ≤ (s.size : Int) := by omega
      have q2 : IntKind.i64.wrap ((a : Int) + 1) = (a : Int) + 1 := IntWalk.i64_in _ (by omega)
      have q3 : (a : Int) ≤ (a : Int) + 1 := by omega
      have q4 : IntKind.i64.wrap ((a : Int) + 2) = (a : Int) + 2 := IntWalk.i64_in _ (by omega)
      clear hfi
      cases hBn : born s a with
      | false =>
        have hnx := hI.plain hf hb hm hlt' hBn
        have hTz := ext_size (s := s) (a := a) (b := a + 1) (by omega)
        obtain ⟨T, hT⟩ : ∃ T, s.extract a (a + 1) = T := ⟨_, rfl⟩
        rw [hT] at hnx hTz
        have hnz := ByteArray.size_append (a := h) (b := T)
        obtain ⟨X, hX⟩ : ∃ X, h ++ T = X := ⟨_, rfl⟩
        rw [hX] at hnx hnz
        have HN := Lib.hid hnx
        have HB := Lib.hid hBn
        have hXz : X.size ≤ 120000 := by omega
        have hsum : h.size + T.size ≤ 120000 := by omega
        have HBW := Lib.hid hB
        have HZ := Lib.hid hz
        clear hI hnx hnz hP hBn hTz hst hB hz
        go_wp2_with fail
        refine (HFI.out).mono ?_
        rintro e w3 ⟨hr, hB3⟩
        rcases hr with ⟨_, hb2, _⟩ | ⟨_, rfl⟩
        · rw [HB.out] at hb2; cases hb2
        have HB3 := Lib.hid hB3
        clear hB3 hRd
        go_wp2
        go_roundw
        case rel => exact ⟨a + 1, A, X, by go_num, rfl, HN.out, (HP.out.below HB3.out).below ((Below.refl w3.heap.size w3).alloc (Nat.le_refl _) _), (HBW.out.trans (HB3.out.mono hsz)).alloc (by have := HB3.out.size; omega) _⟩
        case measure => simp [intOf]; omega
      | true =>
        have hto := to_gt hBn hl
        have hle := (prt_le hl hBn).1
        have hmo := hI.modes hf hb hm hlt' hBn
        have hself := fun t => hI.self hf hb hm hlt' hBn (t := t)
        have hsub := hI.sub hf hb hm hlt' hBn
        have hfr := prt_frm s a
        have h13 : (prt s a).mode = 13 → (prt s a).to = if a + 1 = s.size then s.size else a + 2 := fun e => esc_prt hBn hl e
        obtain ⟨p, hp⟩ : ∃ p, prt s a = p := ⟨_, rfl⟩
        rw [hp] at hto hle hmo hself hsub hfr h13
        obtain ⟨pm, pf, pt, pu, po⟩ := p
        simp only at hto hle hmo hself hsub hfr h13
        subst hfr
        have HB := Lib.hid hBn
        have HPR := Lib.hid hp
        have HSELF := Lib.hid hself
        have HSUB := Lib.hid hsub
        have HBW := Lib.hid hB
        have HZ := Lib.hid hz
        clear hI hself hsub hBn hp hP hst hB hz
        have c0 : ((1 : Int) == 0) = false := rfl
        by_cases c12 : pm = 12
        · subst c12
          by_cases ct : pt = pf + 1
          · subst ct
            have hnx := HSELF.out (s.extract pf (pf + 1)) (by unfold itself; dsimp only; rw [if_neg (by decide), if_pos rfl, if_pos rfl])
            have hTz := ext_size (s := s) (a := pf) (b := pf + 1) (by omega)
            obtain ⟨T, hT⟩ : ∃ T, s.extract pf (pf + 1) = T := ⟨_, rfl⟩
            rw [hT] at hnx hTz
            have hnz := ByteArray.size_append (a := h) (b := T)
            obtain ⟨X, hX⟩ : ∃ X, h ++ T = X := ⟨_, rfl⟩
            rw [hX] at hnx hnz
            have HN := Lib.hid hnx
            have hXz : X.size ≤ 120000 := by omega
            have hsum : h.size + T.size ≤ 120000 := by omega
            clear hnx hnz hTz h13 hmo
            go_wp2_with fail
            refine (HFI.out).mono ?_
            rintro e w3 ⟨hr, hB3⟩
            rcases hr with ⟨_, _, he⟩ | ⟨hn2, _⟩
            · rw [HPR.out] at he
              unfold aggP at he
              simp only at he
              subst he
              have HB3 := Lib.hid hB3
              clear hB3 hRd
              go_wp2
              go_roundw
              case rel => exact ⟨pf + 1, A, X, by go_num, rfl, HN.out, (HP.out.below HB3.out).below ((Below.refl w3.heap.size w3).alloc (Nat.le_refl _) _), (HBW.out.trans (HB3.out.mono hsz)).alloc (by have := HB3.out.size; omega) _⟩
              case measure => simp [intOf]; omega
            · exact absurd ⟨hl, HB.out⟩ hn2
          · have t1 : ((pt : Int) == (pf : Int) + 1) = false := beq_eq_false_iff_ne.2 (by omega)
            have hnx := HSUB.out (by unfold itself; dsimp only; rw [if_neg (by decide), if_pos rfl, if_neg ct])
            obtain ⟨T, hT⟩ : ∃ T, s.extract pf pt = T := ⟨_, rfl⟩
            rw [hT] at hnx
            by_cases hh0 : h.size = 0
            · have hfl : fl true h false = [] := by unfold fl; rw [if_pos ⟨hh0, rfl⟩]
              rw [hfl, List.append_nil] at hnx
              have HN := Lib.hid hnx
              have d1 := le_yes8 hh0
              have d2 := le_iyes8 hh0
              have hza : z ≤ 200000 := by have := HZ.out; omega
              clear hnx h13 hmo hfl hh0 ct
              go_wp2_with fail
              refine (HFI.out).mono ?_
              rintro e w3 ⟨hr, hB3⟩
              rcases hr with ⟨_, _, he⟩ | ⟨hn2, _⟩
              · rw [HPR.out] at he
                unfold aggP at he
                simp only at he
                subst he
                have HB3 := Lib.hid hB3
                have hB4 := (hB3.trans ((Below.refl w3.heap.size w3).alloc (Nat.le_refl _) (.cells #[.int .i64 12, .int .i64 (pf : Int), .int .i64 (pt : Int), .int .i64 pu, .bool po] 42) |>.mono hB3.size))
                have hP4 := (HP.out.below hB4)
                have hBw4 := HBW.out.trans (hB4.mono hsz)
                unfold PcS at hP4
                rw [HZ.out] at hP4
                have HP4 := Lib.hid hP4
                have hs4 := hBw4.size
                simp at hs4
                have kp := Blk.new w3 #[.int .i64 12, .int .i64 (pf : Int), .int .i64 (pt : Int), .int .i64 pu, .bool po] 42
                have hs3 := hB3.size
                have hne : ∀ k, (Value.slice xa z xc).ownBlock = some k → k < wr.heap.size := fun k hk => own_lt HPZ.out k hk
                clear hB3 hRd hP4
                go_wp2_with (at_builtin; refine wpl_app_gen rfl _ _ 23 26 3 24 _ rfl Try.underlying23 infoPc rfl (by omega) (by omega) w.heap.size (.slice xa z xc) z (cellsC A) rfl (own_alloc HP4.out _) _ 1 (cellC ⟨true, true, T⟩) rfl (src_blk (x := ⟨true, true, T⟩) (blk_new2 _ _ _ _)) rfl (cellC_one _) (by omega) (by simp only [World.size_alloc]; omega) (z + 1) rfl ?_; intro oa2 c2 w5 hown5 hgr5 hg5; have k5 := (kp.alloc (.cells #[.bool true, .bool true, .string T] 26)).grown hgr5 (fun e => by have := hne _ e.symm; omega); have k52 := k5.cell 2)
                go_roundw
                case rel =>
                  refine ⟨pt, _, ByteArray.empty, by go_num, rfl, HN.out, ?_, ?_⟩
                  · show w5.ownsRow _ _ _ _ _ _
                    rw [List.length_append, HZ.out, cellsC_append]
                    simpa [cellsC] using hown5
                  · exact (hBw4.alloc hBw4.size _).grown hgr5 (by simp; omega) (fun k hk => own_ge HP4.out k hk)
                case measure => simp [intOf]; omega
              · exact absurd ⟨hl, HB.out⟩ hn2
            · have hfl : fl true h false = [⟨false, true, h⟩] := by unfold fl; rw [if_neg (fun g => hh0 g.1)]
              rw [hfl] at hnx
              have HN := Lib.hid hnx
              have d1 := le_no8 hh0
              have d2 := le_ino8 hh0
              have hza : z ≤ 200000 := by have := HZ.out; omega
              clear hnx h13 hmo hfl hh0 ct
              go_wp2_with fail
              refine (HFI.out).mono ?_
              rintro e w3 ⟨hr, hB3⟩
              rcases hr with ⟨_, _, he⟩ | ⟨hn2, _⟩
              · rw [HPR.out] at he
                unfold aggP at he
                simp only at he
                subst he
                have HB3 := Lib.hid hB3
                have hB4 := (hB3.trans ((Below.refl w3.heap.size w3).alloc (Nat.le_refl _) (.cells #[.int .i64 12, .int .i64 (pf : Int), .int .i64 (pt : Int), .int .i64 pu, .bool po] 42) |>.mono hB3.size))
                have kp := Blk.new w3 #[.int .i64 12, .int .i64 (pf : Int), .int .i64 (pt : Int), .int .i64 pu, .bool po] 42
                have hP4 := (HP.out.below hB4)
                have hBw4 := HBW.out.trans (hB4.mono hsz)
                unfold PcS at hP4
                rw [HZ.out] at hP4
                have HP4 := Lib.hid hP4
                have hs4 := hBw4.size
                have hs3 := hB3.size
                simp at hs4
                have hne : ∀ k, (Value.slice xa z xc).ownBlock = some k → k < wr.heap.size := fun k hk => own_lt HPZ.out k hk
                clear hB3 hRd hP4
                go_wp2_with (at_builtin; first
                  | (refine wpl_app_gen rfl _ _ 23 26 3 24 _ rfl Try.underlying23 infoPc rfl (by omega) (by omega) w.heap.size (.slice xa z xc) z (cellsC A) rfl (own_alloc HP4.out _) _ 1 (cellC ⟨false, true, h⟩) rfl (src_blk (x := ⟨false, true, h⟩) (blk_new2 _ _ _ _)) rfl (cellC_one _) (by omega) (by simp only [World.size_alloc]; omega) (z + 1) rfl ?_; intro oa2 c2 w5 hown5 hgr5 hg5; have hB5 := (hBw4.alloc hBw4.size (.cells #[.bool false, .bool true, .string h] 26)).grown hgr5 (by simp; omega) (fun k hk => own_ge HP4.out k hk); have k5 := (kp.alloc (.cells #[.bool false, .bool true, .string h] 26)).grown hgr5 (fun e => by have := hne _ e.symm; omega); have k50 := k5.cell 0; have k51 := k5.cell 1; have k52 := k5.cell 2; have hs5 := hB5.size)
                  | (refine wpl_app_gen rfl _ _ 23 26 3 24 _ rfl Try.underlying23 infoPc rfl (by omega) (by omega) w.heap.size (.slice oa2 (z + 1) c2) (z + 1) (cellsC A ++ cellC ⟨false, true, h⟩) rfl (own_alloc hown5 _) _ 1 (cellC ⟨true, true, T⟩) rfl (src_one _ ⟨true, true, T⟩) rfl (cellC_one _) (by omega) (by simp only [World.size_alloc]; omega) (z + 1 + 1) rfl ?_; intro oa6 c6 w6 hown6 hgr6 hg6; have k6 := (k5.alloc (.cells #[.bool true, .bool true, .string T] 26)).grown hgr6 (fun e => by rcases hg5 with g | g; (have := hne _ (g.symm.trans e.symm); omega); (rw [← e] at g; simp only [World.size_alloc, Option.some.injEq] at g; omega)); have k62 := k6.cell 2))
                go_roundw
                case rel =>
                  refine ⟨pt, _, ByteArray.empty, by go_num, rfl, HN.out, ?_, ?_⟩
                  · show w6.ownsRow _ _ _ _ _ _
                    rw [List.length_append, List.length_append, HZ.out, cellsC_append, cellsC_append]
                    simpa [cellsC] using hown6
                  · exact (hB5.alloc hB5.size _).grown hgr6 (by simp; omega) (fun k hk => own_ge hown5 k hk)
                case measure => simp [intOf]; omega
              · exact absurd ⟨hl, HB.out⟩ hn2
        have c12' : ((pm : Int) == 12) = false := beq_eq_false_iff_ne.2 (by omega)
        by_cases c13 : pm = 13
        · subst c13
          by_cases hend : pf + 1 = s.size
          · have hpt : pt = s.size := by rw [h13 rfl, if_pos hend]
            have t2 : ((pt : Int) == (pf : Int) + 2) = false := beq_eq_false_iff_ne.2 (by omega)
            have hpt1 : pt = pf + 1 := by omega
            have hpe : itself s ⟨13, pf, pt, pu, po⟩ true = some ByteArray.empty := by unfold itself; dsimp only; rw [if_neg (by decide), if_neg (by decide), if_pos rfl, if_pos (.inl hpt1)]
            have HPE := Lib.hid hpe
            clear hpt hpt1 hpe hend
            have hnx := HSELF.out ByteArray.empty (by exact HPE.out)
            rw [ByteArray.append_empty] at hnx
            have HN := Lib.hid hnx
            clear hnx h13 hmo 
            go_wp2_with fail
            refine (HFI.out).mono ?_
            rintro e w3 ⟨hr, hB3⟩
            rcases hr with ⟨_, _, he⟩ | ⟨hn2, _⟩
            · rw [HPR.out] at he
              unfold aggP at he
              simp only at he
              subst he
              have HB3 := Lib.hid hB3
              clear hB3 hRd
              go_wp2
              go_roundw
              case rel => exact ⟨pt, A, h, by go_num, rfl, HN.out, (HP.out.below HB3.out).below ((Below.refl w3.heap.size w3).alloc (Nat.le_refl _) _), (HBW.out.trans (HB3.out.mono hsz)).alloc (by have := HB3.out.size; omega) _⟩
              case measure => simp [intOf]; omega
            · exact absurd ⟨hl, HB.out⟩ hn2
          · have hpt : pt = pf + 2 := by rw [h13 rfl, if_neg hend]
            subst hpt
            have t2 : ((pf + 2 : Nat) : Int) = (pf : Int) + 2 := by omega
            obtain ⟨b, hby⟩ : ∃ b, by8 s (pf + 1) = b := ⟨_, rfl⟩
            have hbl : b < 256 := hby ▸ by8_lt s _
            have hix : ∀ hh : pf + 1 < s.size, (s[pf + 1]'hh).toNat = b := fun hh => by rw [← hby]; unfold by8; rw [bt_eq hh]
            have hne1 : ¬ (pf + 2 = pf + 1) := by omega
            have q5 : (pf : Int) + 1 < (s.size : Int) := by omega
            have q6 : (pf : Int) + 2 ≤ (s.size : Int) := by omega
            have q7 : (pf : Int) + 1 ≤ (pf : Int) + 2 := by omega
            have q8 : (pf : Int) ≤ (pf : Int) + 2 := by omega
            have q9 : (0 : Int) ≤ (pf : Int) + 1 := by omega
            by_cases b10 : b = 10
            · have hpe : itself s ⟨13, pf, pf + 2, pu, po⟩ true = some ByteArray.empty := by unfold itself; dsimp only; rw [if_neg (by decide), if_neg (by decide), if_pos rfl, if_pos (.inr (hby.trans b10))]
              have HPE := Lib.hid hpe
              subst b10
              clear hpe hby hne1 hend
              have hnx := HSELF.out ByteArray.empty (by exact HPE.out)
              rw [ByteArray.append_empty] at hnx
              have HN := Lib.hid hnx
              clear hnx h13 hmo 
              go_wp2_with fail
              refine (HFI.out).mono ?_
              rintro e w3 ⟨hr, hB3⟩
              rcases hr with ⟨_, _, he⟩ | ⟨hn2, _⟩
              · rw [HPR.out] at he
                unfold aggP at he
                simp only at he
                subst he
                have HB3 := Lib.hid hB3
                clear hB3 hRd
                go_wp2
                go_roundw
                case rel => exact ⟨pf + 2, A, h, by go_num, rfl, HN.out, (HP.out.below HB3.out).below ((Below.refl w3.heap.size w3).alloc (Nat.le_refl _) _), (HBW.out.trans (HB3.out.mono hsz)).alloc (by have := HB3.out.size; omega) _⟩
                case measure => simp [intOf]; omega
              · exact absurd ⟨hl, HB.out⟩ hn2
            · have hor : ¬ (pf + 2 = pf + 1 ∨ by8 s (pf + 1) = 10) := by omega
              by_cases bq : b = 36 ∨ b = 96 ∨ b = 34 ∨ b = 92
              · have hpe : itself s ⟨13, pf, pf + 2, pu, po⟩ true = some (s.extract (pf + 1) (pf + 2)) := by
                  unfold itself; dsimp only; rw [if_neg (by decide), if_neg (by decide), if_pos rfl, if_neg hor, if_neg (by decide)]
                  simp only [hby]
                  rw [if_pos bq]
                have HPE := Lib.hid hpe
                clear hpe hby hor b10 hne1 hend
                rcases bq with rfl | rfl | rfl | rfl
                · skip
                  have hnx := HSELF.out (s.extract (pf + 1) (pf + 2)) (by exact HPE.out)
                  have hTz := ext_size (s := s) (a := pf + 1) (b := pf + 2) (by omega)
                  obtain ⟨T, hT⟩ : ∃ T, s.extract (pf + 1) (pf + 2) = T := ⟨_, rfl⟩
                  rw [hT] at hnx hTz
                  have hnz := ByteArray.size_append (a := h) (b := T)
                  obtain ⟨X, hX⟩ : ∃ X, h ++ T = X := ⟨_, rfl⟩
                  rw [hX] at hnx hnz
                  have HN := Lib.hid hnx
                  have hXz : X.size ≤ 120000 := by omega
                  have hsum : h.size + T.size ≤ 120000 := by omega
                  clear hnx hnz hTz h13 hmo 
                  go_wp2_with fail
                  refine (HFI.out).mono ?_
                  rintro e w3 ⟨hr, hB3⟩
                  rcases hr with ⟨_, _, he⟩ | ⟨hn2, _⟩
                  · rw [HPR.out] at he
                    unfold aggP at he
                    simp only at he
                    subst he
                    have HB3 := Lib.hid hB3
                    clear hB3 hRd
                    go_wp2
                    go_roundw
                    case rel => exact ⟨pf + 2, A, X, by go_num, rfl, HN.out, (HP.out.below HB3.out).below ((Below.refl w3.heap.size w3).alloc (Nat.le_refl _) _), (HBW.out.trans (HB3.out.mono hsz)).alloc (by have := HB3.out.size; omega) _⟩
                    case measure => simp [intOf]; omega
                  · exact absurd ⟨hl, HB.out⟩ hn2
                · skip
                  have hnx := HSELF.out (s.extract (pf + 1) (pf + 2)) (by exact HPE.out)
                  have hTz := ext_size (s := s) (a := pf + 1) (b := pf + 2) (by omega)
                  obtain ⟨T, hT⟩ : ∃ T, s.extract (pf + 1) (pf + 2) = T := ⟨_, rfl⟩
                  rw [hT] at hnx hTz
                  have hnz := ByteArray.size_append (a := h) (b := T)
                  obtain ⟨X, hX⟩ : ∃ X, h ++ T = X := ⟨_, rfl⟩
                  rw [hX] at hnx hnz
                  have HN := Lib.hid hnx
                  have hXz : X.size ≤ 120000 := by omega
                  have hsum : h.size + T.size ≤ 120000 := by omega
                  clear hnx hnz hTz h13 hmo 
                  go_wp2_with fail
                  refine (HFI.out).mono ?_
                  rintro e w3 ⟨hr, hB3⟩
                  rcases hr with ⟨_, _, he⟩ | ⟨hn2, _⟩
                  · rw [HPR.out] at he
                    unfold aggP at he
                    simp only at he
                    subst he
                    have HB3 := Lib.hid hB3
                    clear hB3 hRd
                    go_wp2
                    go_roundw
                    case rel => exact ⟨pf + 2, A, X, by go_num, rfl, HN.out, (HP.out.below HB3.out).below ((Below.refl w3.heap.size w3).alloc (Nat.le_refl _) _), (HBW.out.trans (HB3.out.mono hsz)).alloc (by have := HB3.out.size; omega) _⟩
                    case measure => simp [intOf]; omega
                  · exact absurd ⟨hl, HB.out⟩ hn2
                · skip
                  have hnx := HSELF.out (s.extract (pf + 1) (pf + 2)) (by exact HPE.out)
                  have hTz := ext_size (s := s) (a := pf + 1) (b := pf + 2) (by omega)
                  obtain ⟨T, hT⟩ : ∃ T, s.extract (pf + 1) (pf + 2) = T := ⟨_, rfl⟩
                  rw [hT] at hnx hTz
                  have hnz := ByteArray.size_append (a := h) (b := T)
                  obtain ⟨X, hX⟩ : ∃ X, h ++ T = X := ⟨_, rfl⟩
                  rw [hX] at hnx hnz
                  have HN := Lib.hid hnx
                  have hXz : X.size ≤ 120000 := by omega
                  have hsum : h.size + T.size ≤ 120000 := by omega
                  clear hnx hnz hTz h13 hmo 
                  go_wp2_with fail
                  refine (HFI.out).mono ?_
                  rintro e w3 ⟨hr, hB3⟩
                  rcases hr with ⟨_, _, he⟩ | ⟨hn2, _⟩
                  · rw [HPR.out] at he
                    unfold aggP at he
                    simp only at he
                    subst he
                    have HB3 := Lib.hid hB3
                    clear hB3 hRd
                    go_wp2
                    go_roundw
                    case rel => exact ⟨pf + 2, A, X, by go_num, rfl, HN.out, (HP.out.below HB3.out).below ((Below.refl w3.heap.size w3).alloc (Nat.le_refl _) _), (HBW.out.trans (HB3.out.mono hsz)).alloc (by have := HB3.out.size; omega) _⟩
                    case measure => simp [intOf]; omega
                  · exact absurd ⟨hl, HB.out⟩ hn2
                · skip
                  have hnx := HSELF.out (s.extract (pf + 1) (pf + 2)) (by exact HPE.out)
                  have hTz := ext_size (s := s) (a := pf + 1) (b := pf + 2) (by omega)
                  obtain ⟨T, hT⟩ : ∃ T, s.extract (pf + 1) (pf + 2) = T := ⟨_, rfl⟩
                  rw [hT] at hnx hTz
                  have hnz := ByteArray.size_append (a := h) (b := T)
                  obtain ⟨X, hX⟩ : ∃ X, h ++ T = X := ⟨_, rfl⟩
                  rw [hX] at hnx hnz
                  have HN := Lib.hid hnx
                  have hXz : X.size ≤ 120000 := by omega
                  have hsum : h.size + T.size ≤ 120000 := by omega
                  clear hnx hnz hTz h13 hmo 
                  go_wp2_with fail
                  refine (HFI.out).mono ?_
                  rintro e w3 ⟨hr, hB3⟩
                  rcases hr with ⟨_, _, he⟩ | ⟨hn2, _⟩
                  · rw [HPR.out] at he
                    unfold aggP at he
                    simp only at he
                    subst he
                    have HB3 := Lib.hid hB3
                    clear hB3 hRd
                    go_wp2
                    go_roundw
                    case rel => exact ⟨pf + 2, A, X, by go_num, rfl, HN.out, (HP.out.below HB3.out).below ((Below.refl w3.heap.size w3).alloc (Nat.le_refl _) _), (HBW.out.trans (HB3.out.mono hsz)).alloc (by have := HB3.out.size; omega) _⟩
                    case measure => simp [intOf]; omega
                  · exact absurd ⟨hl, HB.out⟩ hn2
              · have hpe : itself s ⟨13, pf, pf + 2, pu, po⟩ true = some (s.extract pf (pf + 2)) := by
                  unfold itself; dsimp only; rw [if_neg (by decide), if_neg (by decide), if_pos rfl, if_neg hor, if_neg (by decide)]
                  simp only [hby]
                  rw [if_neg bq]
                have HPE := Lib.hid hpe
                have b1 : ((b : Int) == 36) = false := beq_eq_false_iff_ne.2 (by omega)
                have b2 : ((b : Int) == 96) = false := beq_eq_false_iff_ne.2 (by omega)
                have b3 : ((b : Int) == 34) = false := beq_eq_false_iff_ne.2 (by omega)
                have b4 : ((b : Int) == 92) = false := beq_eq_false_iff_ne.2 (by omega)
                have b5 : ((b : Int) == 10) = false := beq_eq_false_iff_ne.2 (by omega)
                clear hpe hby hor b10 hne1 hend bq
                have hnx := HSELF.out (s.extract pf (pf + 2)) (by exact HPE.out)
                have hTz := ext_size (s := s) (a := pf) (b := pf + 2) (by omega)
                obtain ⟨T, hT⟩ : ∃ T, s.extract (pf) (pf + 2) = T := ⟨_, rfl⟩
                rw [hT] at hnx hTz
                have hnz := ByteArray.size_append (a := h) (b := T)
                obtain ⟨X, hX⟩ : ∃ X, h ++ T = X := ⟨_, rfl⟩
                rw [hX] at hnx hnz
                have HN := Lib.hid hnx
                have hXz : X.size ≤ 120000 := by omega
                have hsum : h.size + T.size ≤ 120000 := by omega
                clear hnx hnz hTz h13 hmo 
                go_wp2_with fail
                refine (HFI.out).mono ?_
                rintro e w3 ⟨hr, hB3⟩
                rcases hr with ⟨_, _, he⟩ | ⟨hn2, _⟩
                · rw [HPR.out] at he
                  unfold aggP at he
                  simp only at he
                  subst he
                  have HB3 := Lib.hid hB3
                  clear hB3 hRd
                  go_wp2
                  go_roundw
                  case rel => exact ⟨pf + 2, A, X, by go_num, rfl, HN.out, (HP.out.below HB3.out).below ((Below.refl w3.heap.size w3).alloc (Nat.le_refl _) _), (HBW.out.trans (HB3.out.mono hsz)).alloc (by have := HB3.out.size; omega) _⟩
                  case measure => simp [intOf]; omega
                · exact absurd ⟨hl, HB.out⟩ hn2
        · have c13' : ((pm : Int) == 13) = false := beq_eq_false_iff_ne.2 (by omega)
          have hpe : itself s ⟨pm, pf, pt, pu, po⟩ true = none := by unfold itself; dsimp only; rw [if_neg hmo.2.2, if_neg c12, if_neg c13]
          have HPE := Lib.hid hpe
          clear hpe
          have hnx := HSUB.out (by exact HPE.out)
          obtain ⟨T, hT⟩ : ∃ T, s.extract pf pt = T := ⟨_, rfl⟩
          rw [hT] at hnx
          by_cases hh0 : h.size = 0
          · have hfl : fl true h false = [] := by unfold fl; rw [if_pos ⟨hh0, rfl⟩]
            rw [hfl, List.append_nil] at hnx
            have HN := Lib.hid hnx
            have d1 := le_yes8 hh0
            have d2 := le_iyes8 hh0
            have hza : z ≤ 200000 := by have := HZ.out; omega
            clear hnx h13 hmo hfl hh0 c12 c13
            go_wp2_with fail
            refine (HFI.out).mono ?_
            rintro e w3 ⟨hr, hB3⟩
            rcases hr with ⟨_, _, he⟩ | ⟨hn2, _⟩
            · rw [HPR.out] at he
              unfold aggP at he
              simp only at he
              subst he
              have HB3 := Lib.hid hB3
              have hB4 := (hB3.trans ((Below.refl w3.heap.size w3).alloc (Nat.le_refl _) (.cells #[.int .i64 (pm : Int), .int .i64 (pf : Int), .int .i64 (pt : Int), .int .i64 pu, .bool po] 42) |>.mono hB3.size))
              have hP4 := (HP.out.below hB4)
              have hBw4 := HBW.out.trans (hB4.mono hsz)
              unfold PcS at hP4
              rw [HZ.out] at hP4
              have HP4 := Lib.hid hP4
              have hs4 := hBw4.size
              simp at hs4
              have kp := Blk.new w3 #[.int .i64 (pm : Int), .int .i64 (pf : Int), .int .i64 (pt : Int), .int .i64 pu, .bool po] 42
              have hs3 := hB3.size
              have hne : ∀ k, (Value.slice xa z xc).ownBlock = some k → k < wr.heap.size := fun k hk => own_lt HPZ.out k hk
              clear hB3 hRd hP4
              go_wp2_with (at_builtin; refine wpl_app_gen rfl _ _ 23 26 3 24 _ rfl Try.underlying23 infoPc rfl (by omega) (by omega) w.heap.size (.slice xa z xc) z (cellsC A) rfl (own_alloc HP4.out _) _ 1 (cellC ⟨true, true, T⟩) rfl (src_blk (x := ⟨true, true, T⟩) (blk_new2 _ _ _ _)) rfl (cellC_one _) (by omega) (by simp only [World.size_alloc]; omega) (z + 1) rfl ?_; intro oa2 c2 w5 hown5 hgr5 hg5; have k5 := (kp.alloc (.cells #[.bool true, .bool true, .string T] 26)).grown hgr5 (fun e => by have := hne _ e.symm; omega); have k52 := k5.cell 2)
              go_roundw
              case rel =>
                refine ⟨pt, _, ByteArray.empty, by go_num, rfl, HN.out, ?_, ?_⟩
                · show w5.ownsRow _ _ _ _ _ _
                  rw [List.length_append, HZ.out, cellsC_append]
                  simpa [cellsC] using hown5
                · exact (hBw4.alloc hBw4.size _).grown hgr5 (by simp; omega) (fun k hk => own_ge HP4.out k hk)
              case measure => simp [intOf]; omega
            · exact absurd ⟨hl, HB.out⟩ hn2
          · have hfl : fl true h false = [⟨false, true, h⟩] := by unfold fl; rw [if_neg (fun g => hh0 g.1)]
            rw [hfl] at hnx
            have HN := Lib.hid hnx
            have d1 := le_no8 hh0
            have d2 := le_ino8 hh0
            have hza : z ≤ 200000 := by have := HZ.out; omega
            clear hnx h13 hmo hfl hh0 c12 c13
            go_wp2_with fail
            refine (HFI.out).mono ?_
            rintro e w3 ⟨hr, hB3⟩
            rcases hr with ⟨_, _, he⟩ | ⟨hn2, _⟩
            · rw [HPR.out] at he
              unfold aggP at he
              simp only at he
              subst he
              have HB3 := Lib.hid hB3
              have hB4 := (hB3.trans ((Below.refl w3.heap.size w3).alloc (Nat.le_refl _) (.cells #[.int .i64 (pm : Int), .int .i64 (pf : Int), .int .i64 (pt : Int), .int .i64 pu, .bool po] 42) |>.mono hB3.size))
              have kp := Blk.new w3 #[.int .i64 (pm : Int), .int .i64 (pf : Int), .int .i64 (pt : Int), .int .i64 pu, .bool po] 42
              have hP4 := (HP.out.below hB4)
              have hBw4 := HBW.out.trans (hB4.mono hsz)
              unfold PcS at hP4
              rw [HZ.out] at hP4
              have HP4 := Lib.hid hP4
              have hs4 := hBw4.size
              have hs3 := hB3.size
              simp at hs4
              have hne : ∀ k, (Value.slice xa z xc).ownBlock = some k → k < wr.heap.size := fun k hk => own_lt HPZ.out k hk
              clear hB3 hRd hP4
              go_wp2_with (at_builtin; first
                | (refine wpl_app_gen rfl _ _ 23 26 3 24 _ rfl Try.underlying23 infoPc rfl (by omega) (by omega) w.heap.size (.slice xa z xc) z (cellsC A) rfl (own_alloc HP4.out _) _ 1 (cellC ⟨false, true, h⟩) rfl (src_blk (x := ⟨false, true, h⟩) (blk_new2 _ _ _ _)) rfl (cellC_one _) (by omega) (by simp only [World.size_alloc]; omega) (z + 1) rfl ?_; intro oa2 c2 w5 hown5 hgr5 hg5; have hB5 := (hBw4.alloc hBw4.size (.cells #[.bool false, .bool true, .string h] 26)).grown hgr5 (by simp; omega) (fun k hk => own_ge HP4.out k hk); have k5 := (kp.alloc (.cells #[.bool false, .bool true, .string h] 26)).grown hgr5 (fun e => by have := hne _ e.symm; omega); have k50 := k5.cell 0; have k51 := k5.cell 1; have k52 := k5.cell 2; have hs5 := hB5.size)
                | (refine wpl_app_gen rfl _ _ 23 26 3 24 _ rfl Try.underlying23 infoPc rfl (by omega) (by omega) w.heap.size (.slice oa2 (z + 1) c2) (z + 1) (cellsC A ++ cellC ⟨false, true, h⟩) rfl (own_alloc hown5 _) _ 1 (cellC ⟨true, true, T⟩) rfl (src_one _ ⟨true, true, T⟩) rfl (cellC_one _) (by omega) (by simp only [World.size_alloc]; omega) (z + 1 + 1) rfl ?_; intro oa6 c6 w6 hown6 hgr6 hg6; have k6 := (k5.alloc (.cells #[.bool true, .bool true, .string T] 26)).grown hgr6 (fun e => by rcases hg5 with g | g; (have := hne _ (g.symm.trans e.symm); omega); (rw [← e] at g; simp only [World.size_alloc, Option.some.injEq] at g; omega)); have k62 := k6.cell 2))
              go_roundw
              case rel =>
                refine ⟨pt, _, ByteArray.empty, by go_num, rfl, HN.out, ?_, ?_⟩
                · show w6.ownsRow _ _ _ _ _ _
                  rw [List.length_append, List.length_append, HZ.out, cellsC_append, cellsC_append]
                  simpa [cellsC] using hown6
                · exact (hB5.alloc hB5.size _).grown hgr6 (by simp; omega) (fun k hk => own_ge hown5 k hk)
              case measure => simp [intOf]; omega
            · exact absurd ⟨hl, HB.out⟩ hn2
    · have hge : ¬ a < insT (prt s f) := by have := HE1.out; omega
      have hd := hI.eq
      rw [Rm_end hge] at hd
      have hza : z ≤ 200000 := by omega
      by_cases hh0 : h.size = 0
      · have d1 := le_yes8 hh0
        have d2 := le_iyes8 hh0
        cases A with
        | nil =>
          have hfl : fl true h ([] : List Pc).isEmpty = [⟨false, true, h⟩] := by unfold fl; rw [if_neg (fun g => by simp at g)]
          rw [hfl] at hd
          have HD := Lib.hid hd
          have hz0 : z = 0 := by rw [← hz]; rfl
          subst hz0
          have HBW := Lib.hid hB
          unfold PcS at hP
          have HP4 := Lib.hid hP
          clear hI hd hfl hP hB HP hRd hge hh0 hst hz
          go_wp2_with (at_builtin; refine wpl_app_gen rfl _ _ 23 26 3 24 _ rfl Try.underlying23 infoPc rfl (by omega) (by omega) w.heap.size (.slice xa 0 xc) 0 (cellsC []) rfl (own_alloc HP4.out _) _ 1 (cellC ⟨false, true, h⟩) rfl (src_one _ ⟨false, true, h⟩) rfl (cellC_one _) (by omega) (by simp only [World.size_alloc]; omega) 1 rfl ?_; intro oa2 c2 w5 hown5 hgr5 hg5)
          go_ret
          refine ⟨_, rfl, ?_, ?_⟩
          · rw [HD.out]
            show w5.ownsRow _ _ _ _ _ _
            simpa [cellsC] using hown5
          · exact (HBW.out.alloc hsz _).grown hgr5 (by simp; omega) (fun k hk => own_ge HP4.out k hk)
        | cons x A' =>
          have hfl : fl true h (x :: A').isEmpty = [] := by unfold fl; rw [if_pos ⟨hh0, rfl⟩]
          rw [hfl, List.append_nil] at hd
          have HD := Lib.hid hd
          have hz0 : ((z : Int) == 0) = false := beq_eq_false_iff_ne.2 (by rw [← hz]; simp; omega)
          have HBW := Lib.hid hB
          have HZ := Lib.hid hz
          clear hI hd hfl hP hB hRd hge hh0 hst hz
          go_wp2
          go_ret
          exact ⟨_, rfl, by rw [HD.out]; have := HP.out; unfold PcS at this ⊢; rw [HZ.out] at this ⊢; exact this, HBW.out⟩
      · have d1 := le_no8 hh0
        have d2 := le_ino8 hh0
        have hfl : fl true h A.isEmpty = [⟨false, true, h⟩] := by unfold fl; rw [if_neg (fun g => hh0 g.1)]
        rw [hfl] at hd
        have HD := Lib.hid hd
        have HBW := Lib.hid hB
        have hP4 := HP.out
        unfold PcS at hP4
        rw [hz] at hP4
        have HP4 := Lib.hid hP4
        have HZ := Lib.hid hz
        clear hI hd hfl hP hB hRd hge hh0 hst hz hP4
        go_wp2_with (at_builtin; refine wpl_app_gen rfl _ _ 23 26 3 24 _ rfl Try.underlying23 infoPc rfl (by omega) (by omega) w.heap.size (.slice xa z xc) z (cellsC A) rfl (own_alloc HP4.out _) _ 1 (cellC ⟨false, true, h⟩) rfl (src_one _ ⟨false, true, h⟩) rfl (cellC_one _) (by omega) (by simp only [World.size_alloc]; omega) (z + 1) rfl ?_; intro oa2 c2 w5 hown5 hgr5 hg5)
        go_ret
        refine ⟨_, rfl, ?_, ?_⟩
        · rw [HD.out]
          show w5.ownsRow _ _ _ _ _ _
          rw [List.length_append, HZ.out, cellsC_append]
          simpa [cellsC] using hown5
        · exact (HBW.out.alloc hsz _).grown hgr5 (by simp; omega) (fun k hk => own_ge HP4.out k hk)
end
end Go.Proofs.Ytiklnlkakhghdaa

/- What the document's own Double of layer 8 (literal) returns. Condition: texts of at most 60,000 bytes.
What the document's own Pieces of layer 8 (literal) returns. Condition: texts of at most 60,000 bytes.
What the document's own Bare of layer 8 (literal) returns: the text of all pieces. Condition: texts of at most 60,000 bytes. -/
import Derived.Test.YtgfkbfojeohlkaaGreatDoorLtR
namespace Go.Proofs.YtgfkbfojeohlkaaGreatDoor
open Go.RowKit
set_option linter.unusedVariables false

theorem le_yes8 {x : ByteArray} (h : x.size = 0) : x.toList = [] := by
  rw [Go.ByteArray.toList_eq]
  have : x = ByteArray.empty := ByteArray.ext (Array.eq_empty_of_size_eq_zero h)
  subst this
  rfl
theorem le_no8 {x : ByteArray} (h : x.size ≠ 0) : ¬ x.toList = [] := by
  intro e
  have h1 := Go.ByteArray.toList_eq x
  rw [e] at h1
  have h2 : x.data.toList.length = 0 := by rw [← h1]; rfl
  rw [Array.length_toList] at h2
  exact h h2
theorem le_iyes8 {x : ByteArray} (h : x.size = 0) : x.toList.isEmpty = true := by rw [le_yes8 h]; rfl
theorem le_ino8 {x : ByteArray} (h : x.size ≠ 0) : x.toList.isEmpty = false := by
  cases g : x.toList.isEmpty with
  | false => rfl
  | true => exact absurd (List.isEmpty_iff.1 g) (le_no8 h)

theorem blk_new2 (W : World) (o : Obj) (cs : Array Value) (ty : TypeId) : Blk ((W.alloc o).alloc (.cells cs ty)) (W.heap.size + 1) cs ty := by
  have := Blk.new (W.alloc o) cs ty
  rwa [World.size_alloc] at this
structure DbI (s : ByteArray) (f a : Nat) (A : List Pc) (h : ByteArray) : Prop where
  dq : DqR s f a
  le : a ≤ s.size
  eq : DB s (f + 1) (insT (prt s f)) = A ++ Rm s true (subD s) (insT (prt s f)) a h A.isEmpty
  hz : h.size ≤ a
  az : A.length ≤ 2 * a
section
variable {s : ByteArray} {f : Nat} (hf : f < s.size) (hb : born s f = true) (hm : (prt s f).mode = 5)
include hf hb hm
theorem DbI.start : DbI s f (f + 1) [] ByteArray.empty := by
  obtain ⟨h1, h2, h3, _⟩ := dq_facts hf hb hm
  exact ⟨h3, by omega, rfl, Nat.zero_le _, Nat.zero_le _⟩
theorem DbI.lt {a : Nat} {A : List Pc} {h : ByteArray} (I : DbI s f a A h) (ha : a < insT (prt s f)) : a < s.size := by
  have := (dq_facts hf hb hm).1
  omega
variable {a : Nat} {A : List Pc} {h : ByteArray} (I : DbI s f a A h) (ha : a < insT (prt s f))
include I ha
theorem DbI.plain (hB : born s a = false) : DbI s f (a + 1) A (h ++ s.extract a (a + 1)) := by
  have hl := I.lt hf hb hm ha
  refine ⟨(dq_next hf hb hm).1 a I.dq ha hB, by omega, ?_, ?_, by have := I.az; omega⟩
  · rw [I.eq, Rm_plain (dq_facts hf hb hm).1 ha hB]
  · rw [ByteArray.size_append, ext_size (by omega)]
    have := I.hz
    omega
theorem DbI.self (hB : born s a = true) {t : ByteArray} (ht : itself s (prt s a) true = some t) : DbI s f (prt s a).to A (h ++ t) := by
  have hl := I.lt hf hb hm ha
  have hg := to_gt hB hl
  refine ⟨((dq_next hf hb hm).2 a I.dq ha hB).1, (prt_le hl hB).1, ?_, ?_, by have := I.az; omega⟩
  · rw [I.eq, Rm_self (dq_facts hf hb hm).1 ha hB ht]
  · rw [ByteArray.size_append]
    have := itself_size2 ht
    rw [prt_frm] at this
    have := I.hz
    omega
theorem DbI.sub (hB : born s a = true) (ht : itself s (prt s a) true = none) : DbI s f (prt s a).to (A ++ fl true h false ++ [⟨true, true, s.extract a (prt s a).to⟩]) ByteArray.empty := by
  have hl := I.lt hf hb hm ha
  have hg := to_gt hB hl
  refine ⟨((dq_next hf hb hm).2 a I.dq ha hB).1, (prt_le hl hB).1, ?_, Nat.zero_le _, ?_⟩
  · rw [I.eq, Rm_sub (dq_facts hf hb hm).1 ha hB ht]
    have : (A ++ fl true h false ++ [(⟨true, true, s.extract a (prt s a).to⟩ : Pc)]).isEmpty = false := by
      rw [List.isEmpty_eq_false_iff]
      simp
    rw [this, List.append_assoc, List.append_assoc]
    rfl
  · have := I.az
    rw [List.length_append, List.length_append]
    have : (fl true h false).length ≤ 1 := by unfold fl; split <;> simp
    simp only [List.length_cons, List.length_nil]
    omega
theorem DbI.modes (hB : born s a = true) : (prt s a).mode ≠ 4 ∧ (prt s a).mode ≠ 5 ∧ (prt s a).mode ≠ 14 := (double_at (I.dq.2 ha) (I.lt hf hb hm ha) ((dq_facts hf hb hm).2.2.2 a I.dq ha) hB).2
end
def DbRl (s : ByteArray) (f : Nat) (w : World) (v9 v10 v11 : Value) (wr : World) : Prop := ∃ (a : Nat) (A : List Pc) (h : ByteArray), v11 = .int .i64 (a : Int) ∧ v10 = .string h ∧ DbI s f a A h ∧ PcS wr w.heap.size v9 A ∧ Below w.heap.size w wr
section
variable (w : World)
set_option maxRecDepth 100000 in
set_option maxHeartbeats 16000000 in
theorem double_any (s : ByteArray) (hs : s.size ≤ 60000) (f : Nat) (hf : f < s.size) (hb : born s f = true) (hm : (prt s f).mode = 5) (oa : Option Addr) (n oc : Nat) (hR : RdP w oa n (PL s)) (hn : n ≤ 60000) (f1 e1 : Nat) (hf1 : f1 = f + 1) (he1 : e1 = insT (prt s f)) :
    Calls Tryz.prog 106 #[.string s, .slice oa n oc, .int .i64 (f1 : Int), .int .i64 (e1 : Int)] w fun e w' => ∃ v, e = .returned v ∧ PcS w' w.heap.size v (DB s (f + 1) (insT (prt s f))) ∧ Below w.heap.size w w' := by
  have hins := (dq_facts hf hb hm).1
  have hst := DbI.start hf hb hm
  have HR := Lib.hid hR
  have HF1 := Lib.hid hf1
  have HE1 := Lib.hid he1
  have he1l : e1 ≤ 60000 := by omega
  have hf1l : f1 ≤ 60000 := by omega
  clear hR hf1 he1 hins
  go_enter Tryz.func106, Tryz.ntmps106
  go_wp2
  go_loopw [9, 10, 11] (fun v9 v10 v11 wr => DbRl s f w v9 v10 v11 wr) (fun _ _ v _ => e1 - (intOf v).toNat)
  case atStart => exact ⟨f1, [], _, rfl, rfl, by rw [HF1.out]; exact hst, World.ownsRow_nil _ _ _ _, Below.refl _ _⟩
  case round =>
    obtain ⟨a, A, h, rfl, rfl, hI, hP, hB⟩ := hrel
    have hRd := HR.out.below hB
    have hsz := hB.size
    have hhz := hI.hz
    have haz := hI.az
    have hale := hI.le
    obtain ⟨xa, xc, rfl⟩ := owns_slice hP
    obtain ⟨z, hz⟩ : ∃ z, A.length = z := ⟨_, rfl⟩
    rw [hz] at hP ⊢
    have hPz : wr.ownsRow w.heap.size 124 3 (.slice xa z xc) z (cellsC A) := by have := hP; unfold PcS at this; rw [hz] at this; exact this
    have HPZ := Lib.hid hPz
    clear hPz
    have HP := Lib.hid hP
    by_cases hlt : (a : Int) < (e1 : Int)
    · have hlt' : a < insT (prt s f) := by have := HE1.out; omega
      have hl := hI.lt hf hb hm hlt'
      have hfi := find_any wr s oa n oc a hRd hn (by omega)
      have HFI := Lib.hid hfi
      have q0 : (0 : Int) ≤ (a : Int) := by omega
      have q1 : (a : Int) + 1 ≤ (s.size : Int) := by omega
      have q2 : IntKind.i64.wrap ((a : Int) + 1) = (a : Int) + 1 := IntWalk.i64_in _ (by omega)
      have q3 : (a : Int) ≤ (a : Int) + 1 := by omega
      have q4 : IntKind.i64.wrap ((a : Int) + 2) = (a : Int) + 2 := IntWalk.i64_in _ (by omega)
      clear hfi
      cases hBn : born s a with
      | false =>
        have hnx := hI.plain hf hb hm hlt' hBn
        have hTz := ext_size (s := s) (a := a) (b := a + 1) (by omega)
        obtain ⟨T, hT⟩ : ∃ T, s.extract a (a + 1) = T := ⟨_, rfl⟩
        rw [hT] at hnx hTz
        have hnz := ByteArray.size_append (a := h) (b := T)
        obtain ⟨X, hX⟩ : ∃ X, h ++ T = X := ⟨_, rfl⟩
        rw [hX] at hnx hnz
        have HN := Lib.hid hnx
        have HB := Lib.hid hBn
        have hXz : X.size ≤ 120000 := by omega
        have hsum : h.size + T.size ≤ 120000 := by omega
        have HBW := Lib.hid hB
        have HZ := Lib.hid hz
        clear hI hnx hnz hP hBn hTz hst hB hz
        go_wp2_with fail
        refine (HFI.out).mono ?_
        rintro e w3 ⟨hr, hB3⟩
        rcases hr with ⟨_, hb2, _⟩ | ⟨_, rfl⟩
        · rw [HB.out] at hb2; cases hb2
        have HB3 := Lib.hid hB3
        clear hB3 hRd
        go_wp2
        go_roundw
        case rel => exact ⟨a + 1, A, X, by go_num, rfl, HN.out, (HP.out.below HB3.out).below ((Below.refl w3.heap.size w3).alloc (Nat.le_refl _) _), (HBW.out.trans (HB3.out.mono hsz)).alloc (by have := HB3.out.size; omega) _⟩
        case measure => simp [intOf]; omega
      | true =>
        have hto := to_gt hBn hl
        have hle := (prt_le hl hBn).1
        have hmo := hI.modes hf hb hm hlt' hBn
        have hself := fun t => hI.self hf hb hm hlt' hBn (t := t)
        have hsub := hI.sub hf hb hm hlt' hBn
        have hfr := prt_frm s a
        have h13 : (prt s a).mode = 13 → (prt s a).to = if a + 1 = s.size then s.size else a + 2 := fun e => esc_prt hBn hl e
        obtain ⟨p, hp⟩ : ∃ p, prt s a = p := ⟨_, rfl⟩
        rw [hp] at hto hle hmo hself hsub hfr h13
        obtain ⟨pm, pf, pt, pu, po⟩ := p
        simp only at hto hle hmo hself hsub hfr h13
        subst hfr
        have HB := Lib.hid hBn
        have HPR := Lib.hid hp
        have HSELF := Lib.hid hself
        have HSUB := Lib.hid hsub
        have HBW := Lib.hid hB
        have HZ := Lib.hid hz
        clear hI hself hsub hBn hp hP hst hB hz
        have c0 : ((1 : Int) == 0) = false := rfl
        by_cases c12 : pm = 12
        · subst c12
          by_cases ct : pt = pf + 1
          · subst ct
            have hnx := HSELF.out (s.extract pf (pf + 1)) (by unfold itself; dsimp only; rw [if_neg (by decide), if_pos rfl, if_pos rfl])
            have hTz := ext_size (s := s) (a := pf) (b := pf + 1) (by omega)
            obtain ⟨T, hT⟩ : ∃ T, s.extract pf (pf + 1) = T := ⟨_, rfl⟩
            rw [hT] at hnx hTz
            have hnz := ByteArray.size_append (a := h) (b := T)
            obtain ⟨X, hX⟩ : ∃ X, h ++ T = X := ⟨_, rfl⟩
            rw [hX] at hnx hnz
            have HN := Lib.hid hnx
            have hXz : X.size ≤ 120000 := by omega
            have hsum : h.size + T.size ≤ 120000 := by omega
            clear hnx hnz hTz h13 hmo
            go_wp2_with fail
            refine (HFI.out).mono ?_
            rintro e w3 ⟨hr, hB3⟩
            rcases hr with ⟨_, _, he⟩ | ⟨hn2, _⟩
            · rw [HPR.out] at he
              unfold aggP at he
              simp only at he
              subst he
              have HB3 := Lib.hid hB3
              clear hB3 hRd
              go_wp2
              go_roundw
              case rel => exact ⟨pf + 1, A, X, by go_num, rfl, HN.out, (HP.out.below HB3.out).below ((Below.refl w3.heap.size w3).alloc (Nat.le_refl _) _), (HBW.out.trans (HB3.out.mono hsz)).alloc (by have := HB3.out.size; omega) _⟩
              case measure => simp [intOf]; omega
            · exact absurd ⟨hl, HB.out⟩ hn2
          · have t1 : ((pt : Int) == (pf : Int) + 1) = false := beq_eq_false_iff_ne.2 (by omega)
            have hnx := HSUB.out (by unfold itself; dsimp only; rw [if_neg (by decide), if_pos rfl, if_neg ct])
            obtain ⟨T, hT⟩ : ∃ T, s.extract pf pt = T := ⟨_, rfl⟩
            rw [hT] at hnx
            by_cases hh0 : h.size = 0
            · have hfl : fl true h false = [] := by unfold fl; rw [if_pos ⟨hh0, rfl⟩]
              rw [hfl, List.append_nil] at hnx
              have HN := Lib.hid hnx
              have d1 := le_yes8 hh0
              have d2 := le_iyes8 hh0
              have hza : z ≤ 200000 := by have := HZ.out; omega
              clear hnx h13 hmo hfl hh0 ct
              go_wp2_with fail
              refine (HFI.out).mono ?_
              rintro e w3 ⟨hr, hB3⟩
              rcases hr with ⟨_, _, he⟩ | ⟨hn2, _⟩
              · rw [HPR.out] at he
                unfold aggP at he
                simp only at he
                subst he
                have HB3 := Lib.hid hB3
                have hB4 := (hB3.trans ((Below.refl w3.heap.size w3).alloc (Nat.le_refl _) (.cells #[.int .i64 12, .int .i64 (pf : Int), .int .i64 (pt : Int), .int .i64 pu, .bool po] 152) |>.mono hB3.size))
                have hP4 := (HP.out.below hB4)
                have hBw4 := HBW.out.trans (hB4.mono hsz)
                unfold PcS at hP4
                rw [HZ.out] at hP4
                have HP4 := Lib.hid hP4
                have hs4 := hBw4.size
                simp at hs4
                have kp := Blk.new w3 #[.int .i64 12, .int .i64 (pf : Int), .int .i64 (pt : Int), .int .i64 pu, .bool po] 152
                have hs3 := hB3.size
                have hne : ∀ k, (Value.slice xa z xc).ownBlock = some k → k < wr.heap.size := fun k hk => own_lt HPZ.out k hk
                clear hB3 hRd hP4
                go_wp2_with (at_builtin; refine wpl_app_gen rfl _ _ 121 124 3 24 _ rfl Tryz.underlying121 infoPc rfl (by omega) (by omega) w.heap.size (.slice xa z xc) z (cellsC A) rfl (own_alloc HP4.out _) _ 1 (cellC ⟨true, true, T⟩) rfl (src_blk (x := ⟨true, true, T⟩) (blk_new2 _ _ _ _)) rfl (cellC_one _) (by omega) (by simp only [World.size_alloc]; omega) (z + 1) rfl ?_; intro oa2 c2 w5 hown5 hgr5 hg5; have k5 := (kp.alloc (.cells #[.bool true, .bool true, .string T] 124)).grown hgr5 (fun e => by have := hne _ e.symm; omega); have k52 := k5.cell 2)
                go_roundw
                case rel =>
                  refine ⟨pt, _, ByteArray.empty, by go_num, rfl, HN.out, ?_, ?_⟩
                  · show w5.ownsRow _ _ _ _ _ _
                    rw [List.length_append, HZ.out, cellsC_append]
                    simpa [cellsC] using hown5
                  · exact (hBw4.alloc hBw4.size _).grown hgr5 (by simp; omega) (fun k hk => own_ge HP4.out k hk)
                case measure => simp [intOf]; omega
              · exact absurd ⟨hl, HB.out⟩ hn2
            · have hfl : fl true h false = [⟨false, true, h⟩] := by unfold fl; rw [if_neg (fun g => hh0 g.1)]
              rw [hfl] at hnx
              have HN := Lib.hid hnx
              have d1 := le_no8 hh0
              have d2 := le_ino8 hh0
              have hza : z ≤ 200000 := by have := HZ.out; omega
              clear hnx h13 hmo hfl hh0 ct
              go_wp2_with fail
              refine (HFI.out).mono ?_
              rintro e w3 ⟨hr, hB3⟩
              rcases hr with ⟨_, _, he⟩ | ⟨hn2, _⟩
              · rw [HPR.out] at he
                unfold aggP at he
                simp only at he
                subst he
                have HB3 := Lib.hid hB3
                have hB4 := (hB3.trans ((Below.refl w3.heap.size w3).alloc (Nat.le_refl _) (.cells #[.int .i64 12, .int .i64 (pf : Int), .int .i64 (pt : Int), .int .i64 pu, .bool po] 152) |>.mono hB3.size))
                have kp := Blk.new w3 #[.int .i64 12, .int .i64 (pf : Int), .int .i64 (pt : Int), .int .i64 pu, .bool po] 152
                have hP4 := (HP.out.below hB4)
                have hBw4 := HBW.out.trans (hB4.mono hsz)
                unfold PcS at hP4
                rw [HZ.out] at hP4
                have HP4 := Lib.hid hP4
                have hs4 := hBw4.size
                have hs3 := hB3.size
                simp at hs4
                have hne : ∀ k, (Value.slice xa z xc).ownBlock = some k → k < wr.heap.size := fun k hk => own_lt HPZ.out k hk
                clear hB3 hRd hP4
                go_wp2_with (at_builtin; first
                  | (refine wpl_app_gen rfl _ _ 121 124 3 24 _ rfl Tryz.underlying121 infoPc rfl (by omega) (by omega) w.heap.size (.slice xa z xc) z (cellsC A) rfl (own_alloc HP4.out _) _ 1 (cellC ⟨false, true, h⟩) rfl (src_blk (x := ⟨false, true, h⟩) (blk_new2 _ _ _ _)) rfl (cellC_one _) (by omega) (by simp only [World.size_alloc]; omega) (z + 1) rfl ?_; intro oa2 c2 w5 hown5 hgr5 hg5; have hB5 := (hBw4.alloc hBw4.size (.cells #[.bool false, .bool true, .string h] 124)).grown hgr5 (by simp; omega) (fun k hk => own_ge HP4.out k hk); have k5 := (kp.alloc (.cells #[.bool false, .bool true, .string h] 124)).grown hgr5 (fun e => by have := hne _ e.symm; omega); have k50 := k5.cell 0; have k51 := k5.cell 1; have k52 := k5.cell 2; have hs5 := hB5.size)
                  | (refine wpl_app_gen rfl _ _ 121 124 3 24 _ rfl Tryz.underlying121 infoPc rfl (by omega) (by omega) w.heap.size (.slice oa2 (z + 1) c2) (z + 1) (cellsC A ++ cellC ⟨false, true, h⟩) rfl (own_alloc hown5 _) _ 1 (cellC ⟨true, true, T⟩) rfl (src_one _ ⟨true, true, T⟩) rfl (cellC_one _) (by omega) (by simp only [World.size_alloc]; omega) (z + 1 + 1) rfl ?_; intro oa6 c6 w6 hown6 hgr6 hg6; have k6 := (k5.alloc (.cells #[.bool true, .bool true, .string T] 124)).grown hgr6 (fun e => by rcases hg5 with g | g; (have := hne _ (g.symm.trans e.symm); omega); (rw [← e] at g; simp only [World.size_alloc, Option.some.injEq] at g; omega)); have k62 := k6.cell 2))
                go_roundw
                case rel =>
                  refine ⟨pt, _, ByteArray.empty, by go_num, rfl, HN.out, ?_, ?_⟩
                  · show w6.ownsRow _ _ _ _ _ _
                    rw [List.length_append, List.length_append, HZ.out, cellsC_append, cellsC_append]
                    simpa [cellsC] using hown6
                  · exact (hB5.alloc hB5.size _).grown hgr6 (by simp; omega) (fun k hk => own_ge hown5 k hk)
                case measure => simp [intOf]; omega
              · exact absurd ⟨hl, HB.out⟩ hn2
        have c12' : ((pm : Int) == 12) = false := beq_eq_false_iff_ne.2 (by omega)
        by_cases c13 : pm = 13
        · subst c13
          by_cases hend : pf + 1 = s.size
          · have hpt : pt = s.size := by rw [h13 rfl, if_pos hend]
            have t2 : ((pt : Int) == (pf : Int) + 2) = false := beq_eq_false_iff_ne.2 (by omega)
            have hpt1 : pt = pf + 1 := by omega
            have hpe : itself s ⟨13, pf, pt, pu, po⟩ true = some ByteArray.empty := by unfold itself; dsimp only; rw [if_neg (by decide), if_neg (by decide), if_pos rfl, if_pos (.inl hpt1)]
            have HPE := Lib.hid hpe
            clear hpt hpt1 hpe hend
            have hnx := HSELF.out ByteArray.empty (by exact HPE.out)
            rw [ByteArray.append_empty] at hnx
            have HN := Lib.hid hnx
            clear hnx h13 hmo 
            go_wp2_with fail
            refine (HFI.out).mono ?_
            rintro e w3 ⟨hr, hB3⟩
            rcases hr with ⟨_, _, he⟩ | ⟨hn2, _⟩
            · rw [HPR.out] at he
              unfold aggP at he
              simp only at he
              subst he
              have HB3 := Lib.hid hB3
              clear hB3 hRd
              go_wp2
              go_roundw
              case rel => exact ⟨pt, A, h, by go_num, rfl, HN.out, (HP.out.below HB3.out).below ((Below.refl w3.heap.size w3).alloc (Nat.le_refl _) _), (HBW.out.trans (HB3.out.mono hsz)).alloc (by have := HB3.out.size; omega) _⟩
              case measure => simp [intOf]; omega
            · exact absurd ⟨hl, HB.out⟩ hn2
          · have hpt : pt = pf + 2 := by rw [h13 rfl, if_neg hend]
            subst hpt
            have t2 : ((pf + 2 : Nat) : Int) = (pf : Int) + 2 := by omega
            obtain ⟨b, hby⟩ : ∃ b, by8 s (pf + 1) = b := ⟨_, rfl⟩
            have hbl : b < 256 := hby ▸ by8_lt s _
            have hix : ∀ hh : pf + 1 < s.size, (s[pf + 1]'hh).toNat = b := fun hh => by rw [← hby]; unfold by8; rw [bt_eq hh]
            have hne1 : ¬ (pf + 2 = pf + 1) := by omega
            have q5 : (pf : Int) + 1 < (s.size : Int) := by omega
            have q6 : (pf : Int) + 2 ≤ (s.size : Int) := by omega
            have q7 : (pf : Int) + 1 ≤ (pf : Int) + 2 := by omega
            have q8 : (pf : Int) ≤ (pf : Int) + 2 := by omega
            have q9 : (0 : Int) ≤ (pf : Int) + 1 := by omega
            by_cases b10 : b = 10
            · have hpe : itself s ⟨13, pf, pf + 2, pu, po⟩ true = some ByteArray.empty := by unfold itself; dsimp only; rw [if_neg (by decide), if_neg (by decide), if_pos rfl, if_pos (.inr (hby.trans b10))]
              have HPE := Lib.hid hpe
              subst b10
              clear hpe hby hne1 hend
              have hnx := HSELF.out ByteArray.empty (by exact HPE.out)
              rw [ByteArray.append_empty] at hnx
              have HN := Lib.hid hnx
              clear hnx h13 hmo 
              go_wp2_with fail
              refine (HFI.out).mono ?_
              rintro e w3 ⟨hr, hB3⟩
              rcases hr with ⟨_, _, he⟩ | ⟨hn2, _⟩
              · rw [HPR.out] at he
                unfold aggP at he
                simp only at he
                subst he
                have HB3 := Lib.hid hB3
                clear hB3 hRd
                go_wp2
                go_roundw
                case rel => exact ⟨pf + 2, A, h, by go_num, rfl, HN.out, (HP.out.below HB3.out).below ((Below.refl w3.heap.size w3).alloc (Nat.le_refl _) _), (HBW.out.trans (HB3.out.mono hsz)).alloc (by have := HB3.out.size; omega) _⟩
                case measure => simp [intOf]; omega
              · exact absurd ⟨hl, HB.out⟩ hn2
            · have hor : ¬ (pf + 2 = pf + 1 ∨ by8 s (pf + 1) = 10) := by omega
              by_cases bq : b = 36 ∨ b = 96 ∨ b = 34 ∨ b = 92
              · have hpe : itself s ⟨13, pf, pf + 2, pu, po⟩ true = some (s.extract (pf + 1) (pf + 2)) := by
                  unfold itself; dsimp only; rw [if_neg (by decide), if_neg (by decide), if_pos rfl, if_neg hor, if_neg (by decide)]
                  simp only [hby]
                  rw [if_pos bq]
                have HPE := Lib.hid hpe
                clear hpe hby hor b10 hne1 hend
                rcases bq with rfl | rfl | rfl | rfl
                · skip
                  have hnx := HSELF.out (s.extract (pf + 1) (pf + 2)) (by exact HPE.out)
                  have hTz := ext_size (s := s) (a := pf + 1) (b := pf + 2) (by omega)
                  obtain ⟨T, hT⟩ : ∃ T, s.extract (pf + 1) (pf + 2) = T := ⟨_, rfl⟩
                  rw [hT] at hnx hTz
                  have hnz := ByteArray.size_append (a := h) (b := T)
                  obtain ⟨X, hX⟩ : ∃ X, h ++ T = X := ⟨_, rfl⟩
                  rw [hX] at hnx hnz
                  have HN := Lib.hid hnx
                  have hXz : X.size ≤ 120000 := by omega
                  have hsum : h.size + T.size ≤ 120000 := by omega
                  clear hnx hnz hTz h13 hmo 
                  go_wp2_with fail
                  refine (HFI.out).mono ?_
                  rintro e w3 ⟨hr, hB3⟩
                  rcases hr with ⟨_, _, he⟩ | ⟨hn2, _⟩
                  · rw [HPR.out] at he
                    unfold aggP at he
                    simp only at he
                    subst he
                    have HB3 := Lib.hid hB3
                    clear hB3 hRd
                    go_wp2
                    go_roundw
                    case rel => exact ⟨pf + 2, A, X, by go_num, rfl, HN.out, (HP.out.below HB3.out).below ((Below.refl w3.heap.size w3).alloc (Nat.le_refl _) _), (HBW.out.trans (HB3.out.mono hsz)).alloc (by have := HB3.out.size; omega) _⟩
                    case measure => simp [intOf]; omega
                  · exact absurd ⟨hl, HB.out⟩ hn2
                · skip
                  have hnx := HSELF.out (s.extract (pf + 1) (pf + 2)) (by exact HPE.out)
                  have hTz := ext_size (s := s) (a := pf + 1) (b := pf + 2) (by omega)
                  obtain ⟨T, hT⟩ : ∃ T, s.extract (pf + 1) (pf + 2) = T := ⟨_, rfl⟩
                  rw [hT] at hnx hTz
                  have hnz := ByteArray.size_append (a := h) (b := T)
                  obtain ⟨X, hX⟩ : ∃ X, h ++ T = X := ⟨_, rfl⟩
                  rw [hX] at hnx hnz
                  have HN := Lib.hid hnx
                  have hXz : X.size ≤ 120000 := by omega
                  have hsum : h.size + T.size ≤ 120000 := by omega
                  clear hnx hnz hTz h13 hmo 
                  go_wp2_with fail
                  refine (HFI.out).mono ?_
                  rintro e w3 ⟨hr, hB3⟩
                  rcases hr with ⟨_, _, he⟩ | ⟨hn2, _⟩
                  · rw [HPR.out] at he
                    unfold aggP at he
                    simp only at he
                    subst he
                    have HB3 := Lib.hid hB3
                    clear hB3 hRd
                    go_wp2
                    go_roundw
                    case rel => exact ⟨pf + 2, A, X, by go_num, rfl, HN.out, (HP.out.below HB3.out).below ((Below.refl w3.heap.size w3).alloc (Nat.le_refl _) _), (HBW.out.trans (HB3.out.mono hsz)).alloc (by have := HB3.out.size; omega) _⟩
                    case measure => simp [intOf]; omega
                  · exact absurd ⟨hl, HB.out⟩ hn2
                · skip
                  have hnx := HSELF.out (s.extract (pf + 1) (pf + 2)) (by exact HPE.out)
                  have hTz := ext_size (s := s) (a := pf + 1) (b := pf + 2) (by omega)
                  obtain ⟨T, hT⟩ : ∃ T, s.extract (pf + 1) (pf + 2) = T := ⟨_, rfl⟩
                  rw [hT] at hnx hTz
                  have hnz := ByteArray.size_append (a := h) (b := T)
                  obtain ⟨X, hX⟩ : ∃ X, h ++ T = X := ⟨_, rfl⟩
                  rw [hX] at hnx hnz
                  have HN := Lib.hid hnx
                  have hXz : X.size ≤ 120000 := by omega
                  have hsum : h.size + T.size ≤ 120000 := by omega
                  clear hnx hnz hTz h13 hmo 
                  go_wp2_with fail
                  refine (HFI.out).mono ?_
                  rintro e w3 ⟨hr, hB3⟩
                  rcases hr with ⟨_, _, he⟩ | ⟨hn2, _⟩
                  · rw [HPR.out] at he
                    unfold aggP at he
                    simp only at he
                    subst he
                    have HB3 := Lib.hid hB3
                    clear hB3 hRd
                    go_wp2
                    go_roundw
                    case rel => exact ⟨pf + 2, A, X, by go_num, rfl, HN.out, (HP.out.below HB3.out).below ((Below.refl w3.heap.size w3).alloc (Nat.le_refl _) _), (HBW.out.trans (HB3.out.mono hsz)).alloc (by have := HB3.out.size; omega) _⟩
                    case measure => simp [intOf]; omega
                  · exact absurd ⟨hl, HB.out⟩ hn2
                · skip
                  have hnx := HSELF.out (s.extract (pf + 1) (pf + 2)) (by exact HPE.out)
                  have hTz := ext_size (s := s) (a := pf + 1) (b := pf + 2) (by omega)
                  obtain ⟨T, hT⟩ : ∃ T, s.extract (pf + 1) (pf + 2) = T := ⟨_, rfl⟩
                  rw [hT] at hnx hTz
                  have hnz := ByteArray.size_append (a := h) (b := T)
                  obtain ⟨X, hX⟩ : ∃ X, h ++ T = X := ⟨_, rfl⟩
                  rw [hX] at hnx hnz
                  have HN := Lib.hid hnx
                  have hXz : X.size ≤ 120000 := by omega
                  have hsum : h.size + T.size ≤ 120000 := by omega
                  clear hnx hnz hTz h13 hmo 
                  go_wp2_with fail
                  refine (HFI.out).mono ?_
                  rintro e w3 ⟨hr, hB3⟩
                  rcases hr with ⟨_, _, he⟩ | ⟨hn2, _⟩
                  · rw [HPR.out] at he
                    unfold aggP at he
                    simp only at he
                    subst he
                    have HB3 := Lib.hid hB3
                    clear hB3 hRd
                    go_wp2
                    go_roundw
                    case rel => exact ⟨pf + 2, A, X, by go_num, rfl, HN.out, (HP.out.below HB3.out).below ((Below.refl w3.heap.size w3).alloc (Nat.le_refl _) _), (HBW.out.trans (HB3.out.mono hsz)).alloc (by have := HB3.out.size; omega) _⟩
                    case measure => simp [intOf]; omega
                  · exact absurd ⟨hl, HB.out⟩ hn2
              · have hpe : itself s ⟨13, pf, pf + 2, pu, po⟩ true = some (s.extract pf (pf + 2)) := by
                  unfold itself; dsimp only; rw [if_neg (by decide), if_neg (by decide), if_pos rfl, if_neg hor, if_neg (by decide)]
                  simp only [hby]
                  rw [if_neg bq]
                have HPE := Lib.hid hpe
                have b1 : ((b : Int) == 36) = false := beq_eq_false_iff_ne.2 (by omega)
                have b2 : ((b : Int) == 96) = false := beq_eq_false_iff_ne.2 (by omega)
                have b3 : ((b : Int) == 34) = false := beq_eq_false_iff_ne.2 (by omega)
                have b4 : ((b : Int) == 92) = false := beq_eq_false_iff_ne.2 (by omega)
                have b5 : ((b : Int) == 10) = false := beq_eq_false_iff_ne.2 (by omega)
                clear hpe hby hor b10 hne1 hend bq
                have hnx := HSELF.out (s.extract pf (pf + 2)) (by exact HPE.out)
                have hTz := ext_size (s := s) (a := pf) (b := pf + 2) (by omega)
                obtain ⟨T, hT⟩ : ∃ T, s.extract (pf) (pf + 2) = T := ⟨_, rfl⟩
                rw [hT] at hnx hTz
                have hnz := ByteArray.size_append (a := h) (b := T)
                obtain ⟨X, hX⟩ : ∃ X, h ++ T = X := ⟨_, rfl⟩
                rw [hX] at hnx hnz
                have HN := Lib.hid hnx
                have hXz : X.size ≤ 120000 := by omega
                have hsum : h.size + T.size ≤ 120000 := by omega
                clear hnx hnz hTz h13 hmo 
                go_wp2_with fail
                refine (HFI.out).mono ?_
                rintro e w3 ⟨hr, hB3⟩
                rcases hr with ⟨_, _, he⟩ | ⟨hn2, _⟩
                · rw [HPR.out] at he
                  unfold aggP at he
                  simp only at he
                  subst he
                  have HB3 := Lib.hid hB3
                  clear hB3 hRd
                  go_wp2
                  go_roundw
                  case rel => exact ⟨pf + 2, A, X, by go_num, rfl, HN.out, (HP.out.below HB3.out).below ((Below.refl w3.heap.size w3).alloc (Nat.le_refl _) _), (HBW.out.trans (HB3.out.mono hsz)).alloc (by have := HB3.out.size; omega) _⟩
                  case measure => simp [intOf]; omega
                · exact absurd ⟨hl, HB.out⟩ hn2
        · have c13' : ((pm : Int) == 13) = false := beq_eq_false_iff_ne.2 (by omega)
          have hpe : itself s ⟨pm, pf, pt, pu, po⟩ true = none := by unfold itself; dsimp only; rw [if_neg hmo.2.2, if_neg c12, if_neg c13]
          have HPE := Lib.hid hpe
          clear hpe
          have hnx := HSUB.out (by exact HPE.out)
          obtain ⟨T, hT⟩ : ∃ T, s.extract pf pt = T := ⟨_, rfl⟩
          rw [hT] at hnx
          by_cases hh0 : h.size = 0
          · have hfl : fl true h false = [] := by unfold fl; rw [if_pos ⟨hh0, rfl⟩]
            rw [hfl, List.append_nil] at hnx
            have HN := Lib.hid hnx
            have d1 := le_yes8 hh0
            have d2 := le_iyes8 hh0
            have hza : z ≤ 200000 := by have := HZ.out; omega
            clear hnx h13 hmo hfl hh0 c12 c13
            go_wp2_with fail
            refine (HFI.out).mono ?_
            rintro e w3 ⟨hr, hB3⟩
            rcases hr with ⟨_, _, he⟩ | ⟨hn2, _⟩
            · rw [HPR.out] at he
              unfold aggP at he
              simp only at he
              subst he
              have HB3 := Lib.hid hB3
              have hB4 := (hB3.trans ((Below.refl w3.heap.size w3).alloc (Nat.le_refl _) (.cells #[.int .i64 (pm : Int), .int .i64 (pf : Int), .int .i64 (pt : Int), .int .i64 pu, .bool po] 152) |>.mono hB3.size))
              have hP4 := (HP.out.below hB4)
              have hBw4 := HBW.out.trans (hB4.mono hsz)
              unfold PcS at hP4
              rw [HZ.out] at hP4
              have HP4 := Lib.hid hP4
              have hs4 := hBw4.size
              simp at hs4
              have kp := Blk.new w3 #[.int .i64 (pm : Int), .int .i64 (pf : Int), .int .i64 (pt : Int), .int .i64 pu, .bool po] 152
              have hs3 := hB3.size
              have hne : ∀ k, (Value.slice xa z xc).ownBlock = some k → k < wr.heap.size := fun k hk => own_lt HPZ.out k hk
              clear hB3 hRd hP4
              go_wp2_with (at_builtin; refine wpl_app_gen rfl _ _ 121 124 3 24 _ rfl Tryz.underlying121 infoPc rfl (by omega) (by omega) w.heap.size (.slice xa z xc) z (cellsC A) rfl (own_alloc HP4.out _) _ 1 (cellC ⟨true, true, T⟩) rfl (src_blk (x := ⟨true, true, T⟩) (blk_new2 _ _ _ _)) rfl (cellC_one _) (by omega) (by simp only [World.size_alloc]; omega) (z + 1) rfl ?_; intro oa2 c2 w5 hown5 hgr5 hg5; have k5 := (kp.alloc (.cells #[.bool true, .bool true, .string T] 124)).grown hgr5 (fun e => by have := hne _ e.symm; omega); have k52 := k5.cell 2)
              go_roundw
              case rel =>
                refine ⟨pt, _, ByteArray.empty, by go_num, rfl, HN.out, ?_, ?_⟩
                · show w5.ownsRow _ _ _ _ _ _
                  rw [List.length_append, HZ.out, cellsC_append]
                  simpa [cellsC] using hown5
                · exact (hBw4.alloc hBw4.size _).grown hgr5 (by simp; omega) (fun k hk => own_ge HP4.out k hk)
              case measure => simp [intOf]; omega
            · exact absurd ⟨hl, HB.out⟩ hn2
          · have hfl : fl true h false = [⟨false, true, h⟩] := by unfold fl; rw [if_neg (fun g => hh0 g.1)]
            rw [hfl] at hnx
            have HN := Lib.hid hnx
            have d1 := le_no8 hh0
            have d2 := le_ino8 hh0
            have hza : z ≤ 200000 := by have := HZ.out; omega
            clear hnx h13 hmo hfl hh0 c12 c13
            go_wp2_with fail
            refine (HFI.out).mono ?_
            rintro e w3 ⟨hr, hB3⟩
            rcases hr with ⟨_, _, he⟩ | ⟨hn2, _⟩
            · rw [HPR.out] at he
              unfold aggP at he
              simp only at he
              subst he
              have HB3 := Lib.hid hB3
              have hB4 := (hB3.trans ((Below.refl w3.heap.size w3).alloc (Nat.le_refl _) (.cells #[.int .i64 (pm : Int), .int .i64 (pf : Int), .int .i64 (pt : Int), .int .i64 pu, .bool po] 152) |>.mono hB3.size))
              have kp := Blk.new w3 #[.int .i64 (pm : Int), .int .i64 (pf : Int), .int .i64 (pt : Int), .int .i64 pu, .bool po] 152
              have hP4 := (HP.out.below hB4)
              have hBw4 := HBW.out.trans (hB4.mono hsz)
              unfold PcS at hP4
              rw [HZ.out] at hP4
              have HP4 := Lib.hid hP4
              have hs4 := hBw4.size
              have hs3 := hB3.size
              simp at hs4
              have hne : ∀ k, (Value.slice xa z xc).ownBlock = some k → k < wr.heap.size := fun k hk => own_lt HPZ.out k hk
              clear hB3 hRd hP4
              go_wp2_with (at_builtin; first
                | (refine wpl_app_gen rfl _ _ 121 124 3 24 _ rfl Tryz.underlying121 infoPc rfl (by omega) (by omega) w.heap.size (.slice xa z xc) z (cellsC A) rfl (own_alloc HP4.out _) _ 1 (cellC ⟨false, true, h⟩) rfl (src_blk (x := ⟨false, true, h⟩) (blk_new2 _ _ _ _)) rfl (cellC_one _) (by omega) (by simp only [World.size_alloc]; omega) (z + 1) rfl ?_; intro oa2 c2 w5 hown5 hgr5 hg5; have hB5 := (hBw4.alloc hBw4.size (.cells #[.bool false, .bool true, .string h] 124)).grown hgr5 (by simp; omega) (fun k hk => own_ge HP4.out k hk); have k5 := (kp.alloc (.cells #[.bool false, .bool true, .string h] 124)).grown hgr5 (fun e => by have := hne _ e.symm; omega); have k50 := k5.cell 0; have k51 := k5.cell 1; have k52 := k5.cell 2; have hs5 := hB5.size)
                | (refine wpl_app_gen rfl _ _ 121 124 3 24 _ rfl Tryz.underlying121 infoPc rfl (by omega) (by omega) w.heap.size (.slice oa2 (z + 1) c2) (z + 1) (cellsC A ++ cellC ⟨false, true, h⟩) rfl (own_alloc hown5 _) _ 1 (cellC ⟨true, true, T⟩) rfl (src_one _ ⟨true, true, T⟩) rfl (cellC_one _) (by omega) (by simp only [World.size_alloc]; omega) (z + 1 + 1) rfl ?_; intro oa6 c6 w6 hown6 hgr6 hg6; have k6 := (k5.alloc (.cells #[.bool true, .bool true, .string T] 124)).grown hgr6 (fun e => by rcases hg5 with g | g; (have := hne _ (g.symm.trans e.symm); omega); (rw [← e] at g; simp only [World.size_alloc, Option.some.injEq] at g; omega)); have k62 := k6.cell 2))
              go_roundw
              case rel =>
                refine ⟨pt, _, ByteArray.empty, by go_num, rfl, HN.out, ?_, ?_⟩
                · show w6.ownsRow _ _ _ _ _ _
                  rw [List.length_append, List.length_append, HZ.out, cellsC_append, cellsC_append]
                  simpa [cellsC] using hown6
                · exact (hB5.alloc hB5.size _).grown hgr6 (by simp; omega) (fun k hk => own_ge hown5 k hk)
              case measure => simp [intOf]; omega
            · exact absurd ⟨hl, HB.out⟩ hn2
    · have hge : ¬ a < insT (prt s f) := by have := HE1.out; omega
      have hd := hI.eq
      rw [Rm_end hge] at hd
      have hza : z ≤ 200000 := by omega
      by_cases hh0 : h.size = 0
      · have d1 := le_yes8 hh0
        have d2 := le_iyes8 hh0
        cases A with
        | nil =>
          have hfl : fl true h ([] : List Pc).isEmpty = [⟨false, true, h⟩] := by unfold fl; rw [if_neg (fun g => by simp at g)]
          rw [hfl] at hd
          have HD := Lib.hid hd
          have hz0 : z = 0 := by rw [← hz]; rfl
          subst hz0
          have HBW := Lib.hid hB
          unfold PcS at hP
          have HP4 := Lib.hid hP
          clear hI hd hfl hP hB HP hRd hge hh0 hst hz
          go_wp2_with (at_builtin; refine wpl_app_gen rfl _ _ 121 124 3 24 _ rfl Tryz.underlying121 infoPc rfl (by omega) (by omega) w.heap.size (.slice xa 0 xc) 0 (cellsC []) rfl (own_alloc HP4.out _) _ 1 (cellC ⟨false, true, h⟩) rfl (src_one _ ⟨false, true, h⟩) rfl (cellC_one _) (by omega) (by simp only [World.size_alloc]; omega) 1 rfl ?_; intro oa2 c2 w5 hown5 hgr5 hg5)
          go_ret
          refine ⟨_, rfl, ?_, ?_⟩
          · rw [HD.out]
            show w5.ownsRow _ _ _ _ _ _
            simpa [cellsC] using hown5
          · exact (HBW.out.alloc hsz _).grown hgr5 (by simp; omega) (fun k hk => own_ge HP4.out k hk)
        | cons x A' =>
          have hfl : fl true h (x :: A').isEmpty = [] := by unfold fl; rw [if_pos ⟨hh0, rfl⟩]
          rw [hfl, List.append_nil] at hd
          have HD := Lib.hid hd
          have hz0 : ((z : Int) == 0) = false := beq_eq_false_iff_ne.2 (by rw [← hz]; simp; omega)
          have HBW := Lib.hid hB
          have HZ := Lib.hid hz
          clear hI hd hfl hP hB hRd hge hh0 hst hz
          go_wp2
          go_ret
          exact ⟨_, rfl, by rw [HD.out]; have := HP.out; unfold PcS at this ⊢; rw [HZ.out] at this ⊢; exact this, HBW.out⟩
      · have d1 := le_no8 hh0
        have d2 := le_ino8 hh0
        have hfl : fl true h A.isEmpty = [⟨false, true, h⟩] := by unfold fl; rw [if_neg (fun g => hh0 g.1)]
        rw [hfl] at hd
        have HD := Lib.hid hd
        have HBW := Lib.hid hB
        have hP4 := HP.out
        unfold PcS at hP4
        rw [hz] at hP4
        have HP4 := Lib.hid hP4
        have HZ := Lib.hid hz
        clear hI hd hfl hP hB hRd hge hh0 hst hz hP4
        go_wp2_with (at_builtin; refine wpl_app_gen rfl _ _ 121 124 3 24 _ rfl Tryz.underlying121 infoPc rfl (by omega) (by omega) w.heap.size (.slice xa z xc) z (cellsC A) rfl (own_alloc HP4.out _) _ 1 (cellC ⟨false, true, h⟩) rfl (src_one _ ⟨false, true, h⟩) rfl (cellC_one _) (by omega) (by simp only [World.size_alloc]; omega) (z + 1) rfl ?_; intro oa2 c2 w5 hown5 hgr5 hg5)
        go_ret
        refine ⟨_, rfl, ?_, ?_⟩
        · rw [HD.out]
          show w5.ownsRow _ _ _ _ _ _
          rw [List.length_append, HZ.out, cellsC_append]
          simpa [cellsC] using hown5
        · exact (HBW.out.alloc hsz _).grown hgr5 (by simp; omega) (fun k hk => own_ge HP4.out k hk)
end
end Go.Proofs.YtgfkbfojeohlkaaGreatDoor
namespace Go.Proofs.YtgfkbfojeohlkaaGreatDoor
open Go.RowKit
set_option linter.unusedVariables false

theorem fl_len (dbl : Bool) (h : ByteArray) (w : Bool) : (fl dbl h w).length ≤ 1 := by unfold fl; split <;> simp
theorem rm_len {s : ByteArray} {dbl : Bool} {sub : Nat → List Pc} {e E : Nat} {Rch : Nat → Prop} (he : e ≤ s.size) (heE : e ≤ E) (hR1 : ∀ a, Rch a → a < e → born s a = false → Rch (a + 1)) (hR2 : ∀ a, Rch a → a < e → born s a = true → Rch (prt s a).to ∧ (prt s a).to ≤ E)
    (hsub : ∀ a, Rch a → a < e → born s a = true → (sub a).length + 1 ≤ 2 * ((prt s a).to - a)) : ∀ (k a : Nat) (h : ByteArray) (w : Bool), Rch a → a ≤ E → (rm s dbl sub e k a h w).length ≤ 2 * (E - a) + 1
  | 0, a, h, w, _, _ => by unfold rm; have := fl_len dbl h w; omega
  | k + 1, a, h, w, hr, ha => by
    unfold rm
    by_cases hae : a < e
    · rw [if_pos hae]
      by_cases hb : born s a = true
      · rw [if_pos hb]
        have hg := to_gt hb (by omega)
        obtain ⟨r1, r2⟩ := hR2 a hr hae hb
        cases hi : itself s (prt s a) dbl with
        | some t =>
          have := rm_len (dbl := dbl) he heE hR1 hR2 hsub k _ (h ++ t) w r1 r2
          simp only
          omega
        | none =>
          have h1 := hsub a hr hae hb
          have := rm_len (dbl := dbl) he heE hR1 hR2 hsub k _ ByteArray.empty false r1 r2
          have h2 := fl_len dbl h false
          simp only
          rw [List.length_append, List.length_append]
          omega
      · rw [if_neg hb]
        have := rm_len (dbl := dbl) he heE hR1 hR2 hsub k _ (h ++ s.extract a (a + 1)) w (hR1 a hr hae (by simpa using hb)) (by omega)
        omega
    · rw [if_neg hae]; have := fl_len dbl h w; omega
theorem DB_len {s : ByteArray} {f : Nat} (hf : f < s.size) (hb : born s f = true) (hm : (prt s f).mode = 5) : (DB s (f + 1) (insT (prt s f))).length + 1 ≤ 2 * ((prt s f).to - f) := by
  obtain ⟨h1, h2, h3, hin⟩ := dq_facts hf hb hm
  have hto := to_gt hb hf
  obtain ⟨n1, n2⟩ := dq_next hf hb hm
  have := rm_len (s := s) (dbl := true) (sub := subD s) (e := insT (prt s f)) (E := (prt s f).to) (Rch := DqR s f) h1 h2 n1 n2 (fun a hr hlt hbn => by
    have := to_gt hbn (by omega)
    unfold subD
    simp
    omega) (insT (prt s f) - (f + 1)) (f + 1) ByteArray.empty true h3 (by omega)
  unfold DB Rm
  omega
theorem subT_len {s : ByteArray} {f : Nat} (hf : f < s.size) (hb : born s f = true) : (subT s f).length + 1 ≤ 2 * ((prt s f).to - f) := by
  have hto := to_gt hb hf
  unfold subT
  split
  · rename_i h5; exact DB_len hf hb h5
  · split <;> (simp; omega)
theorem prt_shut {s : ByteArray} {f : Nat} (hb : born s f = true) (hf : f < s.size) (hm : (prt s f).mode ≠ 12) (ho : (prt s f).op = false) : f + 2 ≤ (prt s f).to := by
  have he := prt_eq hb hf
  have h1 := eK_born hb hf
  rw [prt_mo hb hf] at hm
  rw [if_neg hm] at he
  rw [he] at ho ⊢
  simp only at ho ⊢
  have : ¬ eK s f s.size = s.size := of_decide_eq_false ho
  rw [if_neg this]
  omega
theorem insT_quote {m f t : Nat} {u : Int} {op : Bool} (hm : m = 4 ∨ m = 5) (h1 : f < t) (h2 : op = false → f + 2 ≤ t) : insT ⟨m, f, t, u, op⟩ = if op = true then t else t - 1 := by
  unfold insT
  dsimp only
  have e1 : headM m = 1 := by rcases hm with rfl | rfl <;> rfl
  have e2 : tailM m = 1 := by rcases hm with rfl | rfl <;> rfl
  rw [e1, e2]
  cases op with
  | true => simp; omega
  | false => have := h2 rfl; rw [if_neg (by omega), if_neg (by decide), if_pos (by omega), if_neg (by decide)]
theorem insT_esc {f t : Nat} {u : Int} {op : Bool} (h1 : f < t) : insT ⟨13, f, t, u, op⟩ = t := by
  unfold insT
  dsimp only
  have e1 : headM 13 = 1 := rfl
  have e2 : tailM 13 = 0 := rfl
  rw [e1, e2]
  repeat' split
  all_goals omega

structure PiI (s : ByteArray) (a : Nat) (pre : List Pc) (h : ByteArray) : Prop where
  le : a ≤ s.size
  eq : PCs s = pre ++ Rm s false (subT s) s.size a h false
  hz : h.size ≤ a
  az : pre.length + 1 ≤ 2 * a + 1
theorem PiI.start (s : ByteArray) : PiI s 0 [] ByteArray.empty := ⟨Nat.zero_le _, rfl, Nat.le_refl _, Nat.le_refl _⟩
section
variable {s : ByteArray} {a : Nat} {pre : List Pc} {h : ByteArray} (I : PiI s a pre h) (ha : a < s.size)
include I ha
theorem PiI.plain (hB : born s a = false) : PiI s (a + 1) pre (h ++ s.extract a (a + 1)) := by
  refine ⟨by omega, ?_, ?_, by have := I.az; omega⟩
  · rw [I.eq, Rm_plain (Nat.le_refl _) ha hB]
  · rw [ByteArray.size_append, ext_size (by omega)]
    have := I.hz
    omega
theorem PiI.self (hB : born s a = true) {t : ByteArray} (ht : itself s (prt s a) false = some t) : PiI s (prt s a).to pre (h ++ t) := by
  have hg := to_gt hB ha
  refine ⟨(prt_le ha hB).1, ?_, ?_, by have := I.az; omega⟩
  · rw [I.eq, Rm_self (Nat.le_refl _) ha hB ht]
  · rw [ByteArray.size_append]
    have := itself_size2 ht
    rw [prt_frm] at this
    have := I.hz
    omega
theorem PiI.sub (hB : born s a = true) (ht : itself s (prt s a) false = none) : PiI s (prt s a).to (pre ++ fl false h false ++ subT s a) ByteArray.empty := by
  have hg := to_gt hB ha
  refine ⟨(prt_le ha hB).1, ?_, Nat.zero_le _, ?_⟩
  · rw [I.eq, Rm_sub (Nat.le_refl _) ha hB ht, List.append_assoc, List.append_assoc]
  · rw [List.length_append, List.length_append]
    have h1 := fl_len false h false
    have h2 := subT_len ha hB
    have := I.az
    omega
end
def PiA (pre : List Pc) (h : ByteArray) : List Pc := pre ++ fl false h false
theorem PiA.empty (pre : List Pc) : PiA pre ByteArray.empty = pre := by unfold PiA; rw [fl_empty, List.append_nil]
theorem PiA.zero {pre : List Pc} {h : ByteArray} (hz : h.size = 0) : PiA pre h = pre := by
  unfold PiA fl
  rw [if_pos ⟨hz, rfl⟩, List.append_nil]
theorem PiA.more {pre : List Pc} {h : ByteArray} (hz : h.size ≠ 0) : PiA pre h = pre ++ [⟨false, false, h⟩] := by
  unfold PiA fl
  rw [if_neg (fun g => hz g.1)]
theorem PiA.len (pre : List Pc) (h : ByteArray) : (PiA pre h).length ≤ pre.length + 1 := by
  unfold PiA
  rw [List.length_append]
  have := fl_len false h false
  omega
theorem plain_any8 (w : World) (pre : List Pc) (h t : ByteArray) (fr : Bool) (hfr : fr = decide (h.size = 0)) (v : Value) (hP : PcS w 0 v (PiA pre h)) (hl : pre.length ≤ 400000) (hh : h.size ≤ 1000000) (ht : t.size ≤ 1000000) (h0 : 0 < t.size) :
    Calls Tryz.prog 105 #[v, .string t, .bool fr] w fun e w' => ∃ v', e = .returned v' ∧ PcS w' w.heap.size v' (PiA pre (h ++ t)) ∧ Below w.heap.size w w' := by
  have hn : (h ++ t).size ≠ 0 := by rw [ByteArray.size_append]; omega
  rw [PiA.more hn]
  by_cases hz : h.size = 0
  · rw [PiA.zero hz] at hP
    have he : h = ByteArray.empty := ByteArray.ext (Array.eq_empty_of_size_eq_zero hz)
    rw [hfr, decide_eq_true hz]
    have := plain_new w pre t true v hP (by omega) (.inr rfl)
    rw [he, ByteArray.empty_append]
    exact this
  · rw [PiA.more hz] at hP
    rw [hfr, decide_eq_false hz]
    exact plain_ext w pre h t v hP hl hh ht
def PqRl (s : ByteArray) (w : World) (v4 v5 v6 : Value) (wr : World) : Prop := ∃ (a : Nat) (pre : List Pc) (h : ByteArray) (fr : Bool), v6 = .int .i64 (a : Int) ∧ v5 = .bool fr ∧ fr = decide (h.size = 0) ∧ PiI s a pre h ∧ PcS wr w.heap.size v4 (PiA pre h) ∧ Below w.heap.size w wr
section
variable (w : World)
set_option maxRecDepth 100000 in
set_option maxHeartbeats 16000000 in
theorem refpieces_any (s : ByteArray) (hs : s.size ≤ 60000) :
    Calls Tryz.prog 80 #[.string s] w fun e w' => ∃ v, e = .returned v ∧ PcS w' w.heap.size v (PCs s) ∧ Below w.heap.size w w' := by
  go_enter Tryz.func80, Tryz.ntmps80
  go_wp2_with fail
  refine (of_ref_any w s hs).mono ?_
  rintro e w1 ⟨⟨v, rfl, hPS⟩, hB1⟩
  obtain ⟨oa, n, oc, rfl, hR⟩ := hPS.read
  have hn : n ≤ 60000 := by have h1 := hR.len; have h2 := PL_len s; omega
  have HR := Lib.hid hR
  have HB1 := Lib.hid hB1
  have hsz1 := hB1.size
  clear hPS hR hB1
  go_wp2
  go_loopw [4, 5, 6] (fun v4 v5 v6 wr => PqRl s w1 v4 v5 v6 wr) (fun _ _ v _ => s.size - (intOf v).toNat)
  case atStart => exact ⟨0, [], ByteArray.empty, true, rfl, rfl, rfl, PiI.start s, World.ownsRow_nil _ _ _ _, Below.refl _ _⟩
  case round =>
    obtain ⟨a, pre, h, fr, rfl, rfl, hfr, hI, hP, hB⟩ := hrel
    have hRd := HR.out.below hB
    have hsz := hB.size
    have hhz := hI.hz
    have haz := hI.az
    have hale := hI.le
    have hal := PiA.len pre h
    obtain ⟨xa, xc, rfl⟩ := owns_slice hP
    obtain ⟨A, hA⟩ : ∃ A, PiA pre h = A := ⟨_, rfl⟩
    obtain ⟨z, hz⟩ : ∃ z, A.length = z := ⟨_, rfl⟩
    have hP0 := hP
    rw [hA] at hP hal ⊢
    rw [hz] at hP hal ⊢
    have hPz : wr.ownsRow w1.heap.size 124 3 (.slice xa z xc) z (cellsC A) := by have := hP; unfold PcS at this; rw [hz] at this; exact this
    have HPZ := Lib.hid hPz
    have hP0' : PcS wr w1.heap.size (.slice xa z xc) (PiA pre h) := by rw [hA]; exact hP
    have HP := Lib.hid hP0'
    have hza : z ≤ 200000 := by omega
    have HFR := Lib.hid hfr
    have HA := Lib.hid hA
    have HZ := Lib.hid hz
    have HBW := Lib.hid hB
    clear hPz hP hP0 hP0' hfr hA hz hB
    by_cases hlt : (a : Int) < (s.size : Int)
    · have hl : a < s.size := by omega
      have hfi := find_any wr s oa n oc a hRd hn (by omega)
      have HFI := Lib.hid hfi
      have q0 : (0 : Int) ≤ (a : Int) := by omega
      have q1 : (a : Int) + 1 ≤ (s.size : Int) := by omega
      have q2 : IntKind.i64.wrap ((a : Int) + 1) = (a : Int) + 1 := IntWalk.i64_in _ (by omega)
      have q3 : (a : Int) ≤ (a : Int) + 1 := by omega
      have q4 : IntKind.i64.wrap ((a : Int) + 2) = (a : Int) + 2 := IntWalk.i64_in _ (by omega)
      clear hfi
      cases hBn : born s a with
      | false =>
        have hnx := hI.plain hl hBn
        have hTz := ext_size (s := s) (a := a) (b := a + 1) (by omega)
        obtain ⟨T, hT⟩ : ∃ T, s.extract a (a + 1) = T := ⟨_, rfl⟩
        rw [hT] at hnx hTz
        have HN := Lib.hid hnx
        have HB := Lib.hid hBn
        have hTp : 0 < T.size := by omega
        have hPL := Lib.hid (fun W (hW : Below wr.heap.size wr W) => plain_any8 W pre h T fr HFR.out (.slice xa z xc) ((HP.out.below hW).lower (Nat.zero_le _)) (by omega) (by omega) (by omega) (by omega))
        clear hI hnx hBn hTz
        go_wp2_with fail
        refine (HFI.out).mono ?_
        rintro e w3 ⟨hr, hB3⟩
        rcases hr with ⟨_, hb2, _⟩ | ⟨_, rfl⟩
        · rw [HB.out] at hb2; cases hb2
        have hB4 := hB3.alloc hB3.size (.cells #[.int .i64 0, .int .i64 0, .int .i64 0, .int .i64 0, .bool false] 152)
        have HB4 := Lib.hid hB4
        clear hB3 hRd hB4
        go_wp2_with fail
        refine (hPL.out _ HB4.out).mono ?_
        rintro e w5 ⟨v5, rfl, hP5, hB5⟩
        have HP5 := Lib.hid hP5
        have HB5 := Lib.hid hB5
        clear hP5 hB5
        go_wp2
        go_roundw
        case rel => 
          have e1 : Below w1.heap.size w1 w5 := (HBW.out.trans (HB4.out.mono hsz)).trans (HB5.out.mono (by have := HB4.out.size; omega))
          exact ⟨a + 1, pre, h ++ T, false, by go_num, rfl, (decide_eq_false (by rw [ByteArray.size_append]; omega)).symm, HN.out, HP5.out.lower (by have := HB4.out.size; omega), e1⟩
        case measure => simp [intOf]; omega
      | true =>
        have hto := to_gt hBn hl
        have hle := (prt_le hl hBn).1
        have hself := fun t => hI.self hl hBn (t := t)
        have hsub := hI.sub hl hBn
        have hsb : subT s a = if (prt s a).mode = 5 then DB s (a + 1) (insT (prt s a)) else if (prt s a).mode = 4 ∨ (prt s a).mode = 13 then [⟨false, true, s.extract (a + 1) (insT (prt s a))⟩] else [⟨true, false, s.extract a (prt s a).to⟩] := rfl
        have hfrm := prt_frm s a
        have h13 : (prt s a).mode = 13 → (prt s a).to = if a + 1 = s.size then s.size else a + 2 := fun e => esc_prt hBn hl e
        have hsh : (prt s a).mode ≠ 12 → (prt s a).op = false → a + 2 ≤ (prt s a).to := fun e1 e2 => prt_shut hBn hl e1 e2
        have hdl := fun (e : (prt s a).mode = 5) => DB_len hl hBn e
        have hdq := fun (e : (prt s a).mode = 5) W (hW : Below wr.heap.size wr W) f1 e1 (h1 : f1 = a + 1) (h2 : e1 = insT (prt s a)) => double_any W s hs a hl hBn e oa n oc (hRd.below hW) hn f1 e1 h1 h2
        obtain ⟨p, hp⟩ : ∃ p, prt s a = p := ⟨_, rfl⟩
        rw [hp] at hto hle hself hsub hfrm h13 hsb hsh hdl hdq
        obtain ⟨pm, pf, pt, pu, po⟩ := p
        simp only at hto hle hself hsub hfrm h13 hsb hsh hdl hdq
        subst hfrm
        have HB := Lib.hid hBn
        have HPR := Lib.hid hp
        have HSELF := Lib.hid hself
        have HSUB := Lib.hid hsub
        have HSB := Lib.hid hsb
        have HDQ := Lib.hid hdq
        have HDL := Lib.hid hdl
        have HSH := Lib.hid hsh
        clear hI hself hsub hBn hp hsb hdq hdl hsh
        by_cases c14 : pm = 14
        · subst c14
          have hnx := HSELF.out (s.extract pf pt) (by unfold itself; dsimp only; rw [if_pos rfl])
          have hTz := ext_size (s := s) (a := pf) (b := pt) (by omega)
          obtain ⟨T, hT⟩ : ∃ T, s.extract pf pt = T := ⟨_, rfl⟩
          rw [hT] at hnx hTz
          have HN := Lib.hid hnx
          have hPL := Lib.hid (fun W (hW : Below wr.heap.size wr W) => plain_any8 W pre h T fr HFR.out (.slice xa z xc) ((HP.out.below hW).lower (Nat.zero_le _)) (by omega) (by omega) (by omega) (by omega))
          have hTp : 0 < T.size := by omega
          clear hnx hTz h13
          go_wp2_with fail
          refine (HFI.out).mono ?_
          rintro e w3 ⟨hr, hB3⟩
          rcases hr with ⟨_, _, he⟩ | ⟨hn2, _⟩
          · rw [HPR.out] at he
            unfold aggP at he
            simp only at he
            subst he
            have hB4 := hB3.alloc hB3.size (.cells #[.int .i64 14, .int .i64 (pf : Int), .int .i64 (pt : Int), .int .i64 pu, .bool po] 152)
            have HB4 := Lib.hid hB4
            have kp := Blk.new w3 #[.int .i64 14, .int .i64 (pf : Int), .int .i64 (pt : Int), .int .i64 pu, .bool po] 152
            have hs3 := hB3.size
            clear hB3 hRd hB4
            go_wp2_with fail
            refine (hPL.out _ HB4.out).mono ?_
            rintro e w5 ⟨v5, rfl, hP5, hB5⟩
            have HP5 := Lib.hid hP5
            have HB5 := Lib.hid hB5
            clear hP5 hB5
            go_wp2
            go_roundw
            case rel =>
              have e1 : Below w1.heap.size w1 w5 := (HBW.out.trans (HB4.out.mono hsz)).trans (HB5.out.mono (by have := HB4.out.size; omega))
              exact ⟨pt, pre, h ++ T, false, by go_num, rfl, (decide_eq_false (by rw [ByteArray.size_append]; omega)).symm, HN.out, HP5.out.lower (by have := HB4.out.size; omega), e1⟩
            case measure => simp [intOf]; omega
          · exact absurd ⟨hl, HB.out⟩ hn2
        have c14' : ((pm : Int) == 14) = false := beq_eq_false_iff_ne.2 (by omega)
        by_cases c12 : pm = 12
        · subst c12
          by_cases ct : pt = pf + 1
          · subst ct
            have hnx := HSELF.out (s.extract pf (pf + 1)) (by unfold itself; dsimp only; rw [if_neg (by decide), if_pos rfl, if_pos rfl])
            have hTz := ext_size (s := s) (a := pf) (b := pf + 1) (by omega)
            obtain ⟨T, hT⟩ : ∃ T, s.extract pf (pf + 1) = T := ⟨_, rfl⟩
            rw [hT] at hnx hTz
            have HN := Lib.hid hnx
            have hPL := Lib.hid (fun W (hW : Below wr.heap.size wr W) => plain_any8 W pre h T fr HFR.out (.slice xa z xc) ((HP.out.below hW).lower (Nat.zero_le _)) (by omega) (by omega) (by omega) (by omega))
            have hTp : 0 < T.size := by omega
            have tq : ((pf + 1 : Nat) : Int) = (pf : Int) + 1 := by omega
            clear hnx hTz h13
            go_wp2_with fail
            refine (HFI.out).mono ?_
            rintro e w3 ⟨hr, hB3⟩
            rcases hr with ⟨_, _, he⟩ | ⟨hn2, _⟩
            · rw [HPR.out] at he
              unfold aggP at he
              simp only at he
              subst he
              have hB4 := hB3.alloc hB3.size (.cells #[.int .i64 12, .int .i64 (pf : Int), .int .i64 ((pf + 1 : Nat) : Int), .int .i64 pu, .bool po] 152)
              have HB4 := Lib.hid hB4
              have kp := Blk.new w3 #[.int .i64 12, .int .i64 (pf : Int), .int .i64 ((pf + 1 : Nat) : Int), .int .i64 pu, .bool po] 152
              have hs3 := hB3.size
              clear hB3 hRd hB4
              go_wp2_with fail
              refine (hPL.out _ HB4.out).mono ?_
              rintro e w5 ⟨v5, rfl, hP5, hB5⟩
              have HP5 := Lib.hid hP5
              have HB5 := Lib.hid hB5
              clear hP5 hB5
              go_wp2
              go_roundw
              case rel =>
                have e1 : Below w1.heap.size w1 w5 := (HBW.out.trans (HB4.out.mono hsz)).trans (HB5.out.mono (by have := HB4.out.size; omega))
                exact ⟨pf + 1, pre, h ++ T, false, by go_num, rfl, (decide_eq_false (by rw [ByteArray.size_append]; omega)).symm, HN.out, HP5.out.lower (by have := HB4.out.size; omega), e1⟩
              case measure => simp [intOf]; omega
            · exact absurd ⟨hl, HB.out⟩ hn2
          · have t1 : ((pt : Int) == (pf : Int) + 1) = false := beq_eq_false_iff_ne.2 (by omega)
            have hnx := HSUB.out (by unfold itself; dsimp only; rw [if_neg (by decide), if_pos rfl, if_neg ct])
            have hse : subT s pf = [⟨true, false, s.extract pf pt⟩] := by rw [HSB.out, if_neg (by decide), if_neg (by decide)]
            rw [hse] at hnx
            have HN := Lib.hid hnx
            obtain ⟨T, hT⟩ : ∃ T, s.extract pf pt = T := ⟨_, rfl⟩
            rw [hT] at HN
            clear hnx hse h13 ct
            go_wp2_with fail
            refine (HFI.out).mono ?_
            rintro e w3 ⟨hr, hB3⟩
            rcases hr with ⟨_, _, he⟩ | ⟨hn2, _⟩
            · rw [HPR.out] at he
              unfold aggP at he
              simp only at he
              subst he
              have hB4 := hB3.alloc hB3.size (.cells #[.int .i64 12, .int .i64 (pf : Int), .int .i64 (pt : Int), .int .i64 pu, .bool po] 152)
              have HB4 := Lib.hid hB4
              have kp := Blk.new w3 #[.int .i64 12, .int .i64 (pf : Int), .int .i64 (pt : Int), .int .i64 pu, .bool po] 152
              have hs3 := hB3.size
              have hP4 := own_below HPZ.out hB4
              have HP4 := Lib.hid hP4
              have hBw4 := HBW.out.trans (hB4.mono hsz)
              have HBw4 := Lib.hid hBw4
              have hs4 := hBw4.size
              simp at hs4
              clear hB3 hRd hB4 hP4 hBw4
              go_wp2_with (at_builtin; refine wpl_app_gen rfl _ _ 121 124 3 24 _ rfl Tryz.underlying121 infoPc rfl (by omega) (by omega) w1.heap.size (.slice xa z xc) z (cellsC A) rfl (own_alloc HP4.out _) _ 1 (cellC ⟨true, false, T⟩) rfl (src_blk (x := ⟨true, false, T⟩) (blk_new2 _ _ _ _)) rfl (cellC_one _) (by omega) (by simp only [World.size_alloc]; omega) (z + 1) rfl ?_; intro oa2 c2 w6 hown6 hgr6 hg6)
              go_roundw
              case rel =>
                refine ⟨pt, _, ByteArray.empty, true, by go_num, rfl, rfl, HN.out, ?_, ?_⟩
                · rw [PiA.empty]
                  show w6.ownsRow _ _ _ _ _ _
                  have e0 : pre ++ fl false h false = A := HA.out
                  rw [e0, List.length_append, HZ.out, cellsC_append]
                  simpa [cellsC] using hown6
                · exact (HBw4.out.alloc HBw4.out.size _).grown hgr6 (by simp; omega) (fun k hk => own_ge HP4.out k hk)
              case measure => simp [intOf]; omega
            · exact absurd ⟨hl, HB.out⟩ hn2
        have c12' : ((pm : Int) == 12) = false := beq_eq_false_iff_ne.2 (by omega)
        by_cases c13 : pm = 13
        · subst c13
          by_cases hend : pf + 1 = s.size
          · have hpt : pt = s.size := by rw [h13 rfl, if_pos hend]
            have t2 : ((pt : Int) == (pf : Int) + 2) = false := beq_eq_false_iff_ne.2 (by omega)
            have hpt1 : pt = pf + 1 := by omega
            have hpe : itself s ⟨13, pf, pt, pu, po⟩ false = some ByteArray.empty := by unfold itself; dsimp only; rw [if_neg (by decide), if_neg (by decide), if_pos rfl, if_pos (.inl hpt1)]
            have HPE := Lib.hid hpe
            clear hpt hpt1 hpe hend
            have hnx := HSELF.out ByteArray.empty (by exact HPE.out)
            rw [ByteArray.append_empty] at hnx
            have HN := Lib.hid hnx
            clear hnx h13
            go_wp2_with fail
            refine (HFI.out).mono ?_
            rintro e w3 ⟨hr, hB3⟩
            rcases hr with ⟨_, _, he⟩ | ⟨hn2, _⟩
            · rw [HPR.out] at he
              unfold aggP at he
              simp only at he
              subst he
              have hB4 := hB3.alloc hB3.size (.cells #[.int .i64 13, .int .i64 (pf : Int), .int .i64 (pt : Int), .int .i64 pu, .bool po] 152)
              have HB4 := Lib.hid hB4
              have kp := Blk.new w3 #[.int .i64 13, .int .i64 (pf : Int), .int .i64 (pt : Int), .int .i64 pu, .bool po] 152
              have hs3 := hB3.size
              clear hB3 hRd hB4
              go_wp2
              go_roundw
              case rel => exact ⟨pt, pre, h, fr, by go_num, rfl, HFR.out, HN.out, HP.out.below HB4.out, HBW.out.trans (HB4.out.mono hsz)⟩
              case measure => simp [intOf]; omega
            · exact absurd ⟨hl, HB.out⟩ hn2
          · have hpt : pt = pf + 2 := by rw [h13 rfl, if_neg hend]
            subst hpt
            have t2 : ((pf + 2 : Nat) : Int) = (pf : Int) + 2 := by omega
            obtain ⟨b, hby⟩ : ∃ b, by8 s (pf + 1) = b := ⟨_, rfl⟩
            have hbl : b < 256 := hby ▸ by8_lt s _
            have hix : ∀ hh : pf + 1 < s.size, (s[pf + 1]'hh).toNat = b := fun hh => by rw [← hby]; unfold by8; rw [bt_eq hh]
            have hne1 : ¬ (pf + 2 = pf + 1) := by omega
            have q5 : (pf : Int) + 1 < (s.size : Int) := by omega
            have q6 : (pf : Int) + 2 ≤ (s.size : Int) := by omega
            have q7 : (pf : Int) + 1 ≤ (pf : Int) + 2 := by omega
            have q9 : (0 : Int) ≤ (pf : Int) + 1 := by omega
            by_cases b10 : b = 10
            · have hpe : itself s ⟨13, pf, pf + 2, pu, po⟩ false = some ByteArray.empty := by unfold itself; dsimp only; rw [if_neg (by decide), if_neg (by decide), if_pos rfl, if_pos (.inr (hby.trans b10))]
              have HPE := Lib.hid hpe
              subst b10
              clear hpe hby hne1 hend
              have hnx := HSELF.out ByteArray.empty (by exact HPE.out)
              rw [ByteArray.append_empty] at hnx
              have HN := Lib.hid hnx
              clear hnx h13
              go_wp2_with fail
              refine (HFI.out).mono ?_
              rintro e w3 ⟨hr, hB3⟩
              rcases hr with ⟨_, _, he⟩ | ⟨hn2, _⟩
              · rw [HPR.out] at he
                unfold aggP at he
                simp only at he
                subst he
                have hB4 := hB3.alloc hB3.size (.cells #[.int .i64 13, .int .i64 (pf : Int), .int .i64 ((pf + 2 : Nat) : Int), .int .i64 pu, .bool po] 152)
                have HB4 := Lib.hid hB4
                have kp := Blk.new w3 #[.int .i64 13, .int .i64 (pf : Int), .int .i64 ((pf + 2 : Nat) : Int), .int .i64 pu, .bool po] 152
                have hs3 := hB3.size
                clear hB3 hRd hB4
                go_wp2
                go_roundw
                case rel => exact ⟨pf + 2, pre, h, fr, by go_num, rfl, HFR.out, HN.out, HP.out.below HB4.out, HBW.out.trans (HB4.out.mono hsz)⟩
                case measure => simp [intOf]; omega
              · exact absurd ⟨hl, HB.out⟩ hn2
            · have hor : ¬ (pf + 2 = pf + 1 ∨ by8 s (pf + 1) = 10) := by omega
              have hpe : itself s ⟨13, pf, pf + 2, pu, po⟩ false = none := by unfold itself; dsimp only; rw [if_neg (by decide), if_neg (by decide), if_pos rfl, if_neg hor, if_pos rfl]
              have HPE := Lib.hid hpe
              have b5 : ((b : Int) == 10) = false := beq_eq_false_iff_ne.2 (by omega)
              obtain ⟨T, hT⟩ : ∃ T, s.extract (pf + 1) (pf + 2) = T := ⟨_, rfl⟩
              clear hpe hby hor b10 hne1 hend
              have hnx := HSUB.out (by exact HPE.out)
              have hse : subT s pf = [⟨false, true, T⟩] := by rw [HSB.out, if_neg (by decide), if_pos (.inr rfl), insT_esc (by omega), hT]
              rw [hse] at hnx
              have HN := Lib.hid hnx
              clear hnx hse h13 
              go_wp2_with fail
              refine (HFI.out).mono ?_
              rintro e w3 ⟨hr, hB3⟩
              rcases hr with ⟨_, _, he⟩ | ⟨hn2, _⟩
              · rw [HPR.out] at he
                unfold aggP at he
                simp only at he
                subst he
                have hB4 := hB3.alloc hB3.size (.cells #[.int .i64 13, .int .i64 (pf : Int), .int .i64 ((pf + 2 : Nat) : Int), .int .i64 pu, .bool po] 152)
                have HB4 := Lib.hid hB4
                have kp := Blk.new w3 #[.int .i64 13, .int .i64 (pf : Int), .int .i64 ((pf + 2 : Nat) : Int), .int .i64 pu, .bool po] 152
                have hs3 := hB3.size
                have hP4 := own_below HPZ.out hB4
                have HP4 := Lib.hid hP4
                have hBw4 := HBW.out.trans (hB4.mono hsz)
                have HBw4 := Lib.hid hBw4
                have hs4 := hBw4.size
                simp at hs4
                clear hB3 hRd hB4 hP4 hBw4
                go_wp2_with (at_builtin; refine wpl_app_gen rfl _ _ 121 124 3 24 _ rfl Tryz.underlying121 infoPc rfl (by omega) (by omega) w1.heap.size (.slice xa z xc) z (cellsC A) rfl (own_alloc HP4.out _) _ 1 (cellC ⟨false, true, T⟩) rfl (src_blk (x := ⟨false, true, T⟩) (blk_new2 _ _ _ _)) rfl (cellC_one _) (by omega) (by simp only [World.size_alloc]; omega) (z + 1) rfl ?_; intro oa2 c2 w6 hown6 hgr6 hg6)
                go_roundw
                case rel =>
                  refine ⟨pf + 2, _, ByteArray.empty, true, by go_num, rfl, rfl, HN.out, ?_, ?_⟩
                  · rw [PiA.empty]
                    show w6.ownsRow _ _ _ _ _ _
                    have e0 : pre ++ fl false h false = A := HA.out
                    rw [e0, List.length_append, HZ.out, cellsC_append]
                    simpa [cellsC] using hown6
                  · exact (HBw4.out.alloc HBw4.out.size _).grown hgr6 (by simp; omega) (fun k hk => own_ge HP4.out k hk)
                case measure => simp [intOf]; omega
              · exact absurd ⟨hl, HB.out⟩ hn2
        have c13' : ((pm : Int) == 13) = false := beq_eq_false_iff_ne.2 (by omega)
        by_cases c4 : pm = 4
        · subst c4
          have hin := insT_quote (m := 4) (f := pf) (t := pt) (u := pu) (op := po) (.inl rfl) hto (fun e => HSH.out (by decide) e)
          cases po with
          | true =>
            rw [if_pos rfl] at hin
            have r2 : IntKind.i64.wrap ((pt : Int) - 1) = (pt : Int) - 1 := IntWalk.i64_in _ (by omega)
            have q5 : (pf : Int) + 1 ≤ (pt : Int) := by omega
            have q9 : (0 : Int) ≤ (pf : Int) + 1 := by omega
            obtain ⟨T, hT⟩ : ∃ T, s.extract (pf + 1) pt = T := ⟨_, rfl⟩
            have hnx := HSUB.out (by unfold itself; dsimp only; rw [if_neg (by decide), if_neg (by decide), if_neg (by decide)])
            have hse : subT s pf = [⟨false, true, T⟩] := by rw [HSB.out, if_neg (by decide), if_pos (.inl rfl), hin, hT]
            rw [hse] at hnx
            have HN := Lib.hid hnx
            clear hnx hse h13 hin
            go_wp2_with fail
            refine (HFI.out).mono ?_
            rintro e w3 ⟨hr, hB3⟩
            rcases hr with ⟨_, _, he⟩ | ⟨hn2, _⟩
            · rw [HPR.out] at he
              unfold aggP at he
              simp only at he
              subst he
              have hB4 := hB3.alloc hB3.size (.cells #[.int .i64 4, .int .i64 (pf : Int), .int .i64 (pt : Int), .int .i64 pu, .bool true] 152)
              have HB4 := Lib.hid hB4
              have kp := Blk.new w3 #[.int .i64 4, .int .i64 (pf : Int), .int .i64 (pt : Int), .int .i64 pu, .bool true] 152
              have hs3 := hB3.size
              have hP4 := own_below HPZ.out hB4
              have HP4 := Lib.hid hP4
              have hBw4 := HBW.out.trans (hB4.mono hsz)
              have HBw4 := Lib.hid hBw4
              have hs4 := hBw4.size
              simp at hs4
              clear hB3 hRd hB4 hP4 hBw4
              go_wp2_with (at_builtin; refine wpl_app_gen rfl _ _ 121 124 3 24 _ rfl Tryz.underlying121 infoPc rfl (by omega) (by omega) w1.heap.size (.slice xa z xc) z (cellsC A) rfl (own_alloc HP4.out _) _ 1 (cellC ⟨false, true, T⟩) rfl (src_blk (x := ⟨false, true, T⟩) (blk_new2 _ _ _ _)) rfl (cellC_one _) (by omega) (by simp only [World.size_alloc]; omega) (z + 1) rfl ?_; intro oa2 c2 w6 hown6 hgr6 hg6)
              go_roundw
              case rel =>
                refine ⟨pt, _, ByteArray.empty, true, by go_num, rfl, rfl, HN.out, ?_, ?_⟩
                · rw [PiA.empty]
                  show w6.ownsRow _ _ _ _ _ _
                  have e0 : pre ++ fl false h false = A := HA.out
                  rw [e0, List.length_append, HZ.out, cellsC_append]
                  simpa [cellsC] using hown6
                · exact (HBw4.out.alloc HBw4.out.size _).grown hgr6 (by simp; omega) (fun k hk => own_ge HP4.out k hk)
              case measure => simp [intOf]; omega
            · exact absurd ⟨hl, HB.out⟩ hn2
          | false =>
            rw [if_neg (by decide)] at hin
            have h2 := HSH.out (by decide) rfl
            obtain ⟨e1, he1⟩ : ∃ e1, pt - 1 = e1 := ⟨_, rfl⟩
            rw [he1] at hin
            have r2 : IntKind.i64.wrap ((pt : Int) - 1) = (e1 : Int) := by rw [IntWalk.i64_in _ (by omega)]; omega
            have q5 : (pf : Int) + 1 ≤ (e1 : Int) := by omega
            have q6 : (e1 : Int) ≤ (s.size : Int) := by omega
            have q9 : (0 : Int) ≤ (pf : Int) + 1 := by omega
            obtain ⟨T, hT⟩ : ∃ T, s.extract (pf + 1) e1 = T := ⟨_, rfl⟩
            have hnx := HSUB.out (by unfold itself; dsimp only; rw [if_neg (by decide), if_neg (by decide), if_neg (by decide)])
            have hse : subT s pf = [⟨false, true, T⟩] := by rw [HSB.out, if_neg (by decide), if_pos (.inl rfl), hin, hT]
            rw [hse] at hnx
            have HN := Lib.hid hnx
            clear hnx hse h13 hin he1
            go_wp2_with fail
            refine (HFI.out).mono ?_
            rintro e w3 ⟨hr, hB3⟩
            rcases hr with ⟨_, _, he⟩ | ⟨hn2, _⟩
            · rw [HPR.out] at he
              unfold aggP at he
              simp only at he
              subst he
              have hB4 := hB3.alloc hB3.size (.cells #[.int .i64 4, .int .i64 (pf : Int), .int .i64 (pt : Int), .int .i64 pu, .bool false] 152)
              have HB4 := Lib.hid hB4
              have kp := Blk.new w3 #[.int .i64 4, .int .i64 (pf : Int), .int .i64 (pt : Int), .int .i64 pu, .bool false] 152
              have hs3 := hB3.size
              have hP4 := own_below HPZ.out hB4
              have HP4 := Lib.hid hP4
              have hBw4 := HBW.out.trans (hB4.mono hsz)
              have HBw4 := Lib.hid hBw4
              have hs4 := hBw4.size
              simp at hs4
              clear hB3 hRd hB4 hP4 hBw4
              go_wp2_with (at_builtin; refine wpl_app_gen rfl _ _ 121 124 3 24 _ rfl Tryz.underlying121 infoPc rfl (by omega) (by omega) w1.heap.size (.slice xa z xc) z (cellsC A) rfl (own_alloc HP4.out _) _ 1 (cellC ⟨false, true, T⟩) rfl (src_blk (x := ⟨false, true, T⟩) (blk_new2 _ _ _ _)) rfl (cellC_one _) (by omega) (by simp only [World.size_alloc]; omega) (z + 1) rfl ?_; intro oa2 c2 w6 hown6 hgr6 hg6)
              go_roundw
              case rel =>
                refine ⟨pt, _, ByteArray.empty, true, by go_num, rfl, rfl, HN.out, ?_, ?_⟩
                · rw [PiA.empty]
                  show w6.ownsRow _ _ _ _ _ _
                  have e0 : pre ++ fl false h false = A := HA.out
                  rw [e0, List.length_append, HZ.out, cellsC_append]
                  simpa [cellsC] using hown6
                · exact (HBw4.out.alloc HBw4.out.size _).grown hgr6 (by simp; omega) (fun k hk => own_ge HP4.out k hk)
              case measure => simp [intOf]; omega
            · exact absurd ⟨hl, HB.out⟩ hn2
        have c4' : ((pm : Int) == 4) = false := beq_eq_false_iff_ne.2 (by omega)
        by_cases c5 : pm = 5
        · subst c5
          have hin := insT_quote (m := 5) (f := pf) (t := pt) (u := pu) (op := po) (.inr rfl) hto (fun e => HSH.out (by decide) e)
          cases po with
          | true =>
            rw [if_pos rfl] at hin
            have r2 : IntKind.i64.wrap ((pt : Int) - 1) = (pt : Int) - 1 := IntWalk.i64_in _ (by omega)
            have HE1 := Lib.hid hin.symm
            have hnx := HSUB.out (by unfold itself; dsimp only; rw [if_neg (by decide), if_neg (by decide), if_neg (by decide)])
            have hse : subT s pf = DB s (pf + 1) (insT ⟨5, pf, pt, pu, true⟩) := by rw [HSB.out, if_pos rfl]
            rw [hse] at hnx
            have HN := Lib.hid hnx
            have hdn := HDL.out rfl
            clear hin
            obtain ⟨f1, hf1⟩ : ∃ f1, pf + 1 = f1 := ⟨_, rfl⟩
            have r1 : IntKind.i64.wrap ((pf : Int) + 1) = (f1 : Int) := by rw [IntWalk.i64_in _ (by omega)]; omega
            have HF1 := Lib.hid hf1.symm
            obtain ⟨D, hD⟩ : ∃ D, DB s (pf + 1) (insT ⟨5, pf, pt, pu, true⟩) = D := ⟨_, rfl⟩
            rw [hD] at hdn
            obtain ⟨d, hd⟩ : ∃ d, D.length = d := ⟨_, rfl⟩
            rw [hd] at hdn
            have HD := Lib.hid hD
            have HDN := Lib.hid hd
            have hdl : d ≤ 200000 := by omega
            have hf1l : f1 ≤ 60000 := by omega
            clear hnx hse h13 hdn hf1 hD hd q2
            go_wp2_with fail
            refine (HFI.out).mono ?_
            rintro e w3 ⟨hr, hB3⟩
            rcases hr with ⟨_, _, he⟩ | ⟨hn2, _⟩
            · rw [HPR.out] at he
              unfold aggP at he
              simp only at he
              subst he
              have hB4 := hB3.alloc hB3.size (.cells #[.int .i64 5, .int .i64 (pf : Int), .int .i64 (pt : Int), .int .i64 pu, .bool true] 152)
              have HB4 := Lib.hid hB4
              have kp := Blk.new w3 #[.int .i64 5, .int .i64 (pf : Int), .int .i64 (pt : Int), .int .i64 pu, .bool true] 152
              have hs3 := hB3.size
              have hP4 := own_below HPZ.out hB4
              have HP4 := Lib.hid hP4
              have hBw4 := HBW.out.trans (hB4.mono hsz)
              have HBw4 := Lib.hid hBw4
              have hs4 := hBw4.size
              have HDO := Lib.hid (HDQ.out (by first | rfl | trivial) _ hB4 f1 pt HF1.out HE1.out)
              simp at hs4
              clear hB3 hRd hB4 hP4 hBw4
              go_wp2_with fail
              refine (HDO.out).mono ?_
              rintro e w5 ⟨v5, rfl, hD5, hB5⟩
              rw [HD.out] at hD5
              obtain ⟨ya, yc, rfl⟩ := owns_slice hD5
              unfold PcS at hD5
              rw [HDN.out] at hD5 ⊢
              have HSR := Lib.hid (Src.of_own hD5)
              have hP5 := own_below HP4.out hB5
              have HP5 := Lib.hid hP5
              have hBw5 := HBw4.out.trans (hB5.mono HBw4.out.size)
              have HBw5 := Lib.hid hBw5
              have hs5 := hBw5.size
              have hLD : (cellsC D).length = d * 3 := by rw [cellsC_length, HDN.out]
              have HLD := Lib.hid hLD
              clear hD5 hB5 hP5 hBw5 hLD
              go_wp2_with (at_builtin; refine wpl_app_gen rfl _ _ 121 124 3 24 _ rfl Tryz.underlying121 infoPc rfl (by omega) (by omega) w1.heap.size (.slice xa z xc) z (cellsC A) rfl HP5.out (.slice ya d yc) d (cellsC D) rfl HSR.out HLD.out (cellsC_one D) (by omega) hs5 (z + d) rfl ?_; intro oa2 c2 w6 hown6 hgr6 hg6)
              go_roundw
              case rel =>
                refine ⟨pt, _, ByteArray.empty, true, by go_num, rfl, rfl, HN.out, ?_, ?_⟩
                · rw [PiA.empty, HD.out]
                  show w6.ownsRow _ _ _ _ _ _
                  have e0 : pre ++ fl false h false = A := HA.out
                  rw [e0, List.length_append, HZ.out, HDN.out, cellsC_append]
                  exact hown6
                · exact HBw5.out.grown hgr6 (by omega) (fun k hk => own_ge HP5.out k hk)
              case measure => simp [intOf]; omega
            · exact absurd ⟨hl, HB.out⟩ hn2
          | false =>
            rw [if_neg (by decide)] at hin
            have h2 := HSH.out (by decide) rfl
            obtain ⟨e1, he1⟩ : ∃ e1, pt - 1 = e1 := ⟨_, rfl⟩
            rw [he1] at hin
            have r2 : IntKind.i64.wrap ((pt : Int) - 1) = (e1 : Int) := by rw [IntWalk.i64_in _ (by omega)]; omega
            have HE1 := Lib.hid hin.symm
            have hnx := HSUB.out (by unfold itself; dsimp only; rw [if_neg (by decide), if_neg (by decide), if_neg (by decide)])
            have hse : subT s pf = DB s (pf + 1) (insT ⟨5, pf, pt, pu, false⟩) := by rw [HSB.out, if_pos rfl]
            rw [hse] at hnx
            have HN := Lib.hid hnx
            have hdn := HDL.out rfl
            clear hin he1
            obtain ⟨f1, hf1⟩ : ∃ f1, pf + 1 = f1 := ⟨_, rfl⟩
            have r1 : IntKind.i64.wrap ((pf : Int) + 1) = (f1 : Int) := by rw [IntWalk.i64_in _ (by omega)]; omega
            have HF1 := Lib.hid hf1.symm
            obtain ⟨D, hD⟩ : ∃ D, DB s (pf + 1) (insT ⟨5, pf, pt, pu, false⟩) = D := ⟨_, rfl⟩
            rw [hD] at hdn
            obtain ⟨d, hd⟩ : ∃ d, D.length = d := ⟨_, rfl⟩
            rw [hd] at hdn
            have HD := Lib.hid hD
            have HDN := Lib.hid hd
            have hdl : d ≤ 200000 := by omega
            have hf1l : f1 ≤ 60000 := by omega
            clear hnx hse h13 hdn hf1 hD hd q2
            go_wp2_with fail
            refine (HFI.out).mono ?_
            rintro e w3 ⟨hr, hB3⟩
            rcases hr with ⟨_, _, he⟩ | ⟨hn2, _⟩
            · rw [HPR.out] at he
              unfold aggP at he
              simp only at he
              subst he
              have hB4 := hB3.alloc hB3.size (.cells #[.int .i64 5, .int .i64 (pf : Int), .int .i64 (pt : Int), .int .i64 pu, .bool false] 152)
              have HB4 := Lib.hid hB4
              have kp := Blk.new w3 #[.int .i64 5, .int .i64 (pf : Int), .int .i64 (pt : Int), .int .i64 pu, .bool false] 152
              have hs3 := hB3.size
              have hP4 := own_below HPZ.out hB4
              have HP4 := Lib.hid hP4
              have hBw4 := HBW.out.trans (hB4.mono hsz)
              have HBw4 := Lib.hid hBw4
              have hs4 := hBw4.size
              have HDO := Lib.hid (HDQ.out (by first | rfl | trivial) _ hB4 f1 e1 HF1.out HE1.out)
              simp at hs4
              clear hB3 hRd hB4 hP4 hBw4
              go_wp2_with fail
              refine (HDO.out).mono ?_
              rintro e w5 ⟨v5, rfl, hD5, hB5⟩
              rw [HD.out] at hD5
              obtain ⟨ya, yc, rfl⟩ := owns_slice hD5
              unfold PcS at hD5
              rw [HDN.out] at hD5 ⊢
              have HSR := Lib.hid (Src.of_own hD5)
              have hP5 := own_below HP4.out hB5
              have HP5 := Lib.hid hP5
              have hBw5 := HBw4.out.trans (hB5.mono HBw4.out.size)
              have HBw5 := Lib.hid hBw5
              have hs5 := hBw5.size
              have hLD : (cellsC D).length = d * 3 := by rw [cellsC_length, HDN.out]
              have HLD := Lib.hid hLD
              clear hD5 hB5 hP5 hBw5 hLD
              go_wp2_with (at_builtin; refine wpl_app_gen rfl _ _ 121 124 3 24 _ rfl Tryz.underlying121 infoPc rfl (by omega) (by omega) w1.heap.size (.slice xa z xc) z (cellsC A) rfl HP5.out (.slice ya d yc) d (cellsC D) rfl HSR.out HLD.out (cellsC_one D) (by omega) hs5 (z + d) rfl ?_; intro oa2 c2 w6 hown6 hgr6 hg6)
              go_roundw
              case rel =>
                refine ⟨pt, _, ByteArray.empty, true, by go_num, rfl, rfl, HN.out, ?_, ?_⟩
                · rw [PiA.empty, HD.out]
                  show w6.ownsRow _ _ _ _ _ _
                  have e0 : pre ++ fl false h false = A := HA.out
                  rw [e0, List.length_append, HZ.out, HDN.out, cellsC_append]
                  exact hown6
                · exact HBw5.out.grown hgr6 (by omega) (fun k hk => own_ge HP5.out k hk)
              case measure => simp [intOf]; omega
            · exact absurd ⟨hl, HB.out⟩ hn2
        have c5' : ((pm : Int) == 5) = false := beq_eq_false_iff_ne.2 (by omega)
        have hpe : itself s ⟨pm, pf, pt, pu, po⟩ false = none := by unfold itself; dsimp only; rw [if_neg c14, if_neg c12, if_neg c13]
        have HPE := Lib.hid hpe
        have hsq : subT s pf = [⟨true, false, s.extract pf pt⟩] := by rw [HSB.out, if_neg c5, if_neg (by omega)]
        obtain ⟨T, hT⟩ : ∃ T, s.extract pf pt = T := ⟨_, rfl⟩
        rw [hT] at hsq
        have HSQ := Lib.hid hsq
        clear hpe hsq
        have hnx := HSUB.out (by exact HPE.out)
        have hse : subT s pf = [⟨true, false, T⟩] := by exact HSQ.out
        rw [hse] at hnx
        have HN := Lib.hid hnx
        clear hnx hse h13 c14 c12 c13 c4 c5
        go_wp2_with fail
        refine (HFI.out).mono ?_
        rintro e w3 ⟨hr, hB3⟩
        rcases hr with ⟨_, _, he⟩ | ⟨hn2, _⟩
        · rw [HPR.out] at he
          unfold aggP at he
          simp only at he
          subst he
          have hB4 := hB3.alloc hB3.size (.cells #[.int .i64 (pm : Int), .int .i64 (pf : Int), .int .i64 (pt : Int), .int .i64 pu, .bool po] 152)
          have HB4 := Lib.hid hB4
          have kp := Blk.new w3 #[.int .i64 (pm : Int), .int .i64 (pf : Int), .int .i64 (pt : Int), .int .i64 pu, .bool po] 152
          have hs3 := hB3.size
          have hP4 := own_below HPZ.out hB4
          have HP4 := Lib.hid hP4
          have hBw4 := HBW.out.trans (hB4.mono hsz)
          have HBw4 := Lib.hid hBw4
          have hs4 := hBw4.size
          simp at hs4
          clear hB3 hRd hB4 hP4 hBw4
          go_wp2_with (at_builtin; refine wpl_app_gen rfl _ _ 121 124 3 24 _ rfl Tryz.underlying121 infoPc rfl (by omega) (by omega) w1.heap.size (.slice xa z xc) z (cellsC A) rfl (own_alloc HP4.out _) _ 1 (cellC ⟨true, false, T⟩) rfl (src_blk (x := ⟨true, false, T⟩) (blk_new2 _ _ _ _)) rfl (cellC_one _) (by omega) (by simp only [World.size_alloc]; omega) (z + 1) rfl ?_; intro oa2 c2 w6 hown6 hgr6 hg6)
          go_roundw
          case rel =>
            refine ⟨pt, _, ByteArray.empty, true, by go_num, rfl, rfl, HN.out, ?_, ?_⟩
            · rw [PiA.empty]
              show w6.ownsRow _ _ _ _ _ _
              have e0 : pre ++ fl false h false = A := HA.out
              rw [e0, List.length_append, HZ.out, cellsC_append]
              simpa [cellsC] using hown6
            · exact (HBw4.out.alloc HBw4.out.size _).grown hgr6 (by simp; omega) (fun k hk => own_ge HP4.out k hk)
          case measure => simp [intOf]; omega
        · exact absurd ⟨hl, HB.out⟩ hn2
    · obtain rfl : a = s.size := by omega
      have hd := hI.eq
      rw [Rm_end (by omega)] at hd
      have HD := Lib.hid hd
      clear hI hd hRd hlt
      go_wp2
      go_ret
      refine ⟨_, rfl, ?_, HB1.out.trans (HBW.out.mono hsz1)⟩
      rw [HD.out]
      exact HP.out.lower hsz1
end
end Go.Proofs.YtgfkbfojeohlkaaGreatDoor
namespace Go.Proofs.YtgfkbfojeohlkaaGreatDoor
open Go.RowKit
set_option linter.unusedVariables false

theorem take_next {L : List Pc} {i : Nat} {p : Pc} (h : L[i]? = some p) : L.take (i + 1) = L.take i ++ [p] := by rw [List.take_add_one, h]; rfl
theorem bareL_take_le (L : List Pc) (i : Nat) : (bareL (L.take i)).size ≤ (bareL L).size := by
  have := bareL_append (L.take i) (L.drop i)
  rw [List.take_append_drop] at this
  rw [this, ByteArray.size_append]
  omega
theorem bareL_one (p : Pc) : bareL [p] = p.t := by show p.t ++ ByteArray.empty = _; rw [ByteArray.append_empty]
theorem PCs_len (s : ByteArray) (hs : s.size ≤ 60000) : (PCs s).length ≤ 120001 := by
  have := rm_len (s := s) (dbl := false) (sub := subT s) (e := s.size) (E := s.size) (Rch := fun _ => True) (Nat.le_refl _) (Nat.le_refl _) (fun _ _ _ _ => trivial) (fun a _ hlt hbn => ⟨trivial, (prt_le hlt hbn).1⟩) (fun a _ hlt hbn => subT_len hlt hbn) s.size 0 ByteArray.empty false trivial (Nat.zero_le _)
  have e : PCs s = rm s false (subT s) s.size s.size 0 ByteArray.empty false := rfl
  rw [e]
  omega
def BaRl (L : List Pc) (n : Nat) (w : World) (v4 v5 : Value) (wr : World) : Prop := ∃ i : Nat, i ≤ n ∧ v5 = .int .i64 (i : Int) ∧ v4 = .string (bareL (L.take i)) ∧ wr = w
section
variable (w : World)
set_option maxHeartbeats 4000000 in
theorem refbare_any (s : ByteArray) (hs : s.size ≤ 60000) :
    Calls Tryz.prog 57 #[.string s] w fun e w' => e = .returned (.string (bareL (PCs s))) ∧ Below w.heap.size w w' := by
  have htot := PCs_tot s
  have hcap := PCs_len s hs
  have hps := refpieces_any w s hs
  obtain ⟨L, hL⟩ : ∃ L, PCs s = L := ⟨_, rfl⟩
  rw [hL] at hps htot hcap ⊢
  have HPS := Lib.hid hps
  clear hps hL
  go_enter Tryz.func57, Tryz.ntmps57
  go_wp2_with fail
  refine (HPS.out).mono ?_
  rintro e w1 ⟨v, rfl, hP, hB⟩
  obtain ⟨oa, n, oc, rfl, hRd⟩ := hP.read
  have HRd := Lib.hid hRd
  have hnl : n ≤ 120001 := by have := hRd.len; omega
  clear hP hRd
  go_wp2
  go_loopw [4, 5] (fun v4 v5 wr => BaRl L n w1 v4 v5 wr) (fun _ v _ => n - (intOf v).toNat)
  case atStart => exact ⟨0, Nat.zero_le _, rfl, rfl, rfl⟩
  case round =>
    obtain ⟨i, hi, rfl, rfl, rfl⟩ := hrel
    by_cases hlt : (i : Int) < (n : Int)
    · have hlt' : i < n := by omega
      have q0 : (0 : Int) ≤ (i : Int) := by omega
      obtain ⟨ob, p, rfl, hp, _, a0, a1, a2⟩ := HRd.out.get hlt'
      have hsu := take_next hp
      have hle := bareL_take_le L (i + 1)
      rw [hsu, bareL_append, bareL_one] at hle
      have hz := ByteArray.size_append (a := bareL (L.take i)) (b := p.t)
      obtain ⟨X, hX⟩ : ∃ X, bareL (L.take i) = X := ⟨_, rfl⟩
      have hsu2 : bareL (L.take (i + 1)) = X ++ p.t := by rw [hsu, bareL_append, bareL_one, hX]
      rw [hX] at hle hz ⊢
      obtain ⟨T, hT⟩ : ∃ T, p.t = T := ⟨_, rfl⟩
      rw [hT] at hle hz a2 hsu2
      obtain ⟨Y, hY⟩ : ∃ Y, X ++ T = Y := ⟨_, rfl⟩
      rw [hY] at hle hz hsu2
      have HSU := Lib.hid hsu2
      have hYz : Y.size ≤ 60000 := by omega
      have hsum : X.size + T.size ≤ 60000 := by omega
      clear hsu hle hz hsu2 hX hp hT htot
      go_wp2
      go_roundw
      case rel => exact ⟨i + 1, by omega, by go_num, by rw [HSU.out], rfl⟩
      case measure => simp [intOf]; omega
    · obtain rfl : i = n := by omega
      have hall : L.take i = L := List.take_of_length_le (by rw [HRd.out.len]; exact Nat.le_refl _)
      rw [hall]
      clear hall htot
      go_wp2
      go_ret
      exact ⟨rfl, hB⟩
end
end Go.Proofs.YtgfkbfojeohlkaaGreatDoor

/- What Names of layer 7 (parts) and the document's own Name return, and what layer 7's statement PartsNames does. No condition of the statement but that a text's length fits an int. -/
import Derived.Test.YthelcmjgikfbjaaPtS
import Derived.Maps.AppendAt
import Derived.Laws.AppendOwn
namespace Go.Proofs.Ythelcmjgikfbjaa
open Go.RowKit
set_option linter.unusedVariables false

theorem infoS : (Try.prog.info? 9).map (fun i => (i.zero, i.size, i.bytes)) = some (some (.string ⟨#[]⟩), 1, 16) := by kernel_rfl
def strCells (zs : List ByteArray) : List Value := zs.map Value.string
/-- The names of the first i parts that have one. -/
def nmK (s : ByteArray) (i : Nat) : List ByteArray := (((PL s).take i).map (nameP s)).filter fun t => decide (t.size ≠ 0)
theorem nmK_succ {s : ByteArray} {i : Nat} {p : Prt} (h : (PL s)[i]? = some p) : nmK s (i + 1) = nmK s i ++ if (nameP s p).size = 0 then [] else [nameP s p] := by
  unfold nmK
  rw [List.take_add_one, h, List.map_append, List.filter_append]
  congr 1
  show List.filter (fun t : ByteArray => decide (t.size ≠ 0)) [nameP s p] = _
  by_cases e : (nameP s p).size = 0
  · rw [if_pos e, List.filter_cons_of_neg (by rw [decide_eq_true_iff]; exact fun h => h e)]
    rfl
  · rw [if_neg e, List.filter_cons_of_pos (by rw [decide_eq_true_iff]; exact e)]
    rfl
theorem nmK_len (s : ByteArray) (i : Nat) : (nmK s i).length ≤ s.size := by
  unfold nmK
  have h1 := List.length_filter_le (fun t : ByteArray => decide (t.size ≠ 0)) (((PL s).take i).map (nameP s))
  have h2 := PL_len s
  simp at h1 ⊢
  omega
theorem nmK_at {s : ByteArray} {i : Nat} {p : Prt} (h : (PL s)[i]? = some p) (hn : (nameP s p).size ≠ 0) : ∀ {k : Nat}, i < k → k ≤ (PL s).length → (nmK s k)[(nmK s i).length]? = some (nameP s p)
  | 0, h1, _ => by omega
  | k + 1, h1, h2 => by
    have hk : k < (PL s).length := by omega
    rw [nmK_succ (List.getElem?_eq_getElem hk)]
    by_cases e : i = k
    · subst e
      have : (PL s)[i] = p := (List.getElem?_eq_some_iff.1 h).2
      rw [this, if_neg hn]
      simp
    · have h3 := nmK_at h hn (k := k) (by omega) (by omega)
      rw [List.getElem?_append_left (List.getElem?_eq_some_iff.1 h3).1]
      exact h3

section
variable (w : World)
def NmRl (s : ByteArray) (n : Nat) (w : World) (v2 v9 : Value) (wr : World) : Prop :=
  ∃ i : Nat, i ≤ n ∧ v9 = .int .i64 (i : Int) ∧ wr.ownsRow w.heap.size 9 1 v2 (nmK s i).length (strCells (nmK s i)) ∧ Below w.heap.size w wr
set_option maxHeartbeats 4000000 in
theorem names_any (s : ByteArray) (hs : s.size ≤ 60000) :
    Calls Try.prog 22 #[.string s] w fun e w' => ∃ v, e = .returned v ∧ w'.ownsRow w.heap.size 9 1 v (nmK s (PL s).length).length (strCells (nmK s (PL s).length)) ∧ Below w.heap.size w w' := by
  obtain ⟨i0, hi, hz0, hz1, hz2⟩ := info_parts infoS
  go_enter Try.func22, Try.ntmps22
  go_wp2_with fail
  refine (of_parts_any w s (by omega)).mono ?_
  rintro e w1 ⟨⟨v, rfl, hP⟩, hB⟩
  obtain ⟨oa, n, oc, rfl, hR⟩ := hP.read
  have hnl : n ≤ 60000 := by have h1 := hR.len; have h2 := PL_len s; omega
  have HR := Lib.hid hR
  have HB := Lib.hid hB
  clear hR hP hB
  go_wp2
  go_loopw [2, 9] (fun v2 v9 wr => NmRl s n w1 v2 v9 wr) (fun _ v _ => n - (intOf v).toNat)
  case atStart => exact ⟨0, Nat.zero_le _, rfl, World.ownsRow_nil _ _ _ _, Below.refl _ _⟩
  case round =>
    obtain ⟨i, hil, rfl, hown, hBr⟩ := hrel
    have hsz := hBr.size
    by_cases hlt : (i : Int) < (n : Int)
    · have hlt' : i < n := by omega
      have q0 : (0 : Int) ≤ (i : Int) := by omega
      obtain ⟨ob, p, rfl, hp, _, a0, a1, a2, a3, a4⟩ := (HR.out.below hBr).at hlt'
      have hok := PL_ok hp
      have hsu := nmK_succ hp
      have hns := nameP_size hok.tle
      have hnk := nmK_len s i
      obtain ⟨T, hT⟩ : ∃ T, nameP s p = T := ⟨_, rfl⟩
      rw [hT] at hsu hns
      obtain ⟨m, f, t, up, op⟩ := p
      simp only at a0 a1 a2 a3 a4
      have HN := Lib.hid (fun W => named_any W s m f t up op T (Lib.hid hT) hs hok)
      have HSU := Lib.hid hsu
      have HOWN := Lib.hid hown
      have hB1 := hBr.alloc hsz (.cells #[.int .i64 (m : Int), .int .i64 (f : Int), .int .i64 (t : Int), .int .i64 up, .bool op] 27)
      have hs1 : (wr.alloc (.cells #[.int .i64 (m : Int), .int .i64 (f : Int), .int .i64 (t : Int), .int .i64 up, .bool op] 27)).heap.size = wr.heap.size + 1 := World.size_alloc _ _
      have HB1 := Lib.hid hB1
      have HS1 := Lib.hid hs1
      have HBR := Lib.hid hBr
      have hTl : T.size ≤ 281474976710656 := by omega
      clear hsu hown hp hok hT hB1 hs1 hBr
      by_cases hT0 : T.size = 0
      · have l1 := le_yes hT0
        have l2 := le_iyes hT0
        have HT0 := Lib.hid hT0
        clear hT0
        go_wp2_with fail
        refine (HN.out _).mono ?_
        rintro e w3 ⟨rfl, hb3⟩
        go_wp2
        go_roundw
        case rel =>
          have hB3 := HB1.out.trans (hb3.mono HB1.out.size)
          refine ⟨i + 1, by omega, by go_num, ?_, hB3⟩
          rw [HSU.out, if_pos HT0.out, List.append_nil]
          exact own_below HOWN.out (((Below.refl wr.heap.size wr).alloc (Nat.le_refl _) _).trans (hb3.mono (by have := HS1.out; omega)))
        case measure => simp [intOf]; omega
      · have l1 := le_no hT0
        have l2 := le_ino hT0
        have HT0 := Lib.hid hT0
        clear hT0
        go_wp2_with fail
        refine (HN.out _).mono ?_
        rintro e w3 ⟨rfl, hb3⟩
        go_wp2_with fail
        refine (clone_any T _ hTl).mono ?_
        rintro e w4 ⟨rfl, hb4⟩
        have hB4 := (HB1.out.trans (hb3.mono HB1.out.size)).trans (hb4.mono (Nat.le_trans HB1.out.size hb3.size))
        have hO4 := own_below (own_below HOWN.out (((Below.refl wr.heap.size wr).alloc (Nat.le_refl _) (.cells #[.int .i64 (m : Int), .int .i64 (f : Int), .int .i64 (t : Int), .int .i64 up, .bool op] 27)).trans (hb3.mono (by have := HS1.out; omega)))) hb4
        have HB4 := Lib.hid hB4
        clear hB4
        go_wp2_with (at_builtin; refine wpList_append_own _ rfl _ _ 43 rfl w1.heap.size 9 i0 (.string ⟨#[]⟩) 1 16 Try.underlying43 hi hz0 hz1 hz2 rfl (by decide) _ _ _ rfl (hO4.alloc _) ⟨w4.heap.size, 0, none⟩ 1 1 [.string T] rfl rfl (cell_one_new _ _ _) (by simp [Value.oneCell']) (by unfold maxLen; omega) (by omega) (by have := HB4.out.size; rw [World.size_alloc]; omega) ?_; intro v' w5 hown5 hgr5 _)
        go_roundw
        case rel =>
          refine ⟨i + 1, by omega, by go_num, ?_, (HB4.out.alloc HB4.out.size _).grown hgr5 (by have := HB4.out.size; rw [World.size_alloc]; omega) (own_ge hO4)⟩
          rw [HSU.out, if_neg HT0.out]
          have e : strCells (nmK s i ++ [T]) = strCells (nmK s i) ++ [.string T] := by simp [strCells]
          rw [e, List.length_append]
          exact hown5
        case measure => simp [intOf]; omega
    · obtain rfl : n = i := by omega
      have HOWN := Lib.hid hown
      clear hown
      go_wp2
      go_ret
      refine ⟨_, rfl, ?_, HB.out.trans (hBr.mono HB.out.size)⟩
      have h1 := HOWN.out
      rw [HR.out.len] at h1
      exact owns_base h1 (fun k hk => Nat.le_trans HB.out.size (own_ge h1 k hk))

theorem brN_end (s : ByteArray) : brN s s.size = ⟨#[]⟩ := by
  unfold brN brK
  rw [if_neg (fun h => absurd h.1 (Nat.lt_irrefl _)), paramN_end]
  apply ByteArray.ext
  simp
set_option maxHeartbeats 4000000 in
theorem refname7_any (s : ByteArray) (m f t : Nat) (up : Int) (op : Bool) (T : ByteArray) (hT : Hid (nameP s ⟨m, f, t, up, op⟩ = T)) (hs : s.size ≤ 60000) (hok : PtOk s ⟨m, f, t, up, op⟩) :
    Calls Try.prog 23 #[.string s, .agg #[.int .i64 (m : Int), .int .i64 (f : Int), .int .i64 (t : Int), .int .i64 up, .bool op]] w fun e w' => e = .returned (.string T) ∧ Below w.heap.size w w' := by
  have hT0 := hT.out
  unfold nameP at hT0
  simp only at hT0
  have h1 : f < s.size := hok.frm
  have h2 : t ≤ s.size := hok.tle
  have h3 : m = 12 → f + 1 ≤ t := hok.dol
  have h4 : m = 7 ∨ m = 8 → f + 2 ≤ s.size := hok.brc
  clear hT hok
  by_cases e12 : m = 12
  · rw [if_pos e12] at hT0
    subst e12 hT0
    have h5 := h3 rfl
    have e1 : IntKind.i64.wrap ((f : Int) + 1) = ((f + 1 : Nat) : Int) := by rw [IntWalk.i64_in _ (by omega)]; omega
    obtain ⟨f1, hf1⟩ : ∃ f1, f + 1 = f1 := ⟨_, rfl⟩
    rw [hf1] at e1 h5 ⊢
    have r1 : (f1 : Int) ≤ (t : Int) := by omega
    have r2 : (t : Int) ≤ s.size := by omega
    clear hf1 h3 h4
    go_enter Try.func23, Try.ntmps23
    go_wp2
    go_ret
    exact ⟨rfl, (Below.refl _ _).alloc (Nat.le_refl _) _⟩
  rw [if_neg e12] at hT0
  have t12 : ((m : Int) == 12) = false := beq_eq_false_iff_ne.2 (by omega)
  by_cases e78 : m = 7 ∨ m = 8
  · rw [if_pos e78] at hT0
    have h5 := h4 e78
    have e1 : IntKind.i64.wrap ((f : Int) + 2) = ((f + 2 : Nat) : Int) := by rw [IntWalk.i64_in _ (by omega)]; omega
    obtain ⟨k, hk⟩ : ∃ k, f + 2 = k := ⟨_, rfl⟩
    rw [hk] at e1 h5 hT0
    by_cases hks : k < s.size
    · have g1 : ¬ (s.size : Int) ≤ (k : Int) := by omega
      have g2 : (k : Int) < (s.size : Int) := by omega
      have g3 : (0 : Int) ≤ (k : Int) := by omega
      have e2 : IntKind.i64.wrap ((k : Int) + 1) = ((k + 1 : Nat) : Int) := by rw [IntWalk.i64_in _ (by omega)]; omega
      obtain ⟨k1, hk1⟩ : ∃ k1, k + 1 = k1 := ⟨_, rfl⟩
      rw [hk1] at e2
      obtain ⟨N1, hN1⟩ : ∃ N1, paramN s k1 = N1 := ⟨_, rfl⟩
      have HP1 := Lib.hid (fun W => refparam_le s k1 N1 W (by omega) (by omega) (Lib.hid hN1))
      have hl1 := paramN_le s k1 (by omega)
      rw [hN1] at hl1
      unfold brN brK at hT0
      rw [hk1, hN1] at hT0
      by_cases hx : (bt s k).toNat = 35
      · have u1 : ((s[k].toNat : Int) == 35) = true := by_yes hks hx
        by_cases h0 : 0 < N1
        · rw [if_pos ⟨hks, hx, h0⟩, hN1] at hT0
          subst hT0
          have h0' : (0 : Int) < (N1 : Int) := by omega
          have a1 : IntKind.i64.wrap ((k1 : Int) + (N1 : Int)) = ((k1 + N1 : Nat) : Int) := by rw [IntWalk.i64_in _ (by omega)]; omega
          obtain ⟨t1, ht1⟩ : ∃ t1, k1 + N1 = t1 := ⟨_, rfl⟩
          rw [ht1] at a1 ⊢
          have r2 : (t1 : Int) ≤ s.size := by omega
          have r3 : (k1 : Int) ≤ (t1 : Int) := by omega
          have r4 : (0 : Int) ≤ (k1 : Int) := by omega
          rcases e78 with rfl | rfl
          all_goals
            clear h3 h4 hk hk1 hN1 hl1 ht1 hx
            go_enter Try.func23, Try.ntmps23
            go_wp2_with fail
            refine (HP1.out _).mono ?_
            rintro e w1 ⟨rfl, rfl⟩
            go_wp2_with fail
            refine (HP1.out _).mono ?_
            rintro e w1 ⟨rfl, rfl⟩
            go_wp2
            go_ret
            exact ⟨rfl, (Below.refl _ _).alloc (Nat.le_refl _) _⟩
        · rw [if_neg (fun h => h0 h.2.2)] at hT0
          obtain rfl : N1 = 0 := by omega
          obtain ⟨N0, hN0⟩ : ∃ N0, paramN s k = N0 := ⟨_, rfl⟩
          have HP0 := Lib.hid (fun W => refparam_le s k N0 W (by omega) (by omega) (Lib.hid hN0))
          have hl0 := paramN_le s k (by omega)
          rw [hN0] at hl0 hT0
          subst hT0
          have a1 : IntKind.i64.wrap ((k : Int) + (N0 : Int)) = ((k + N0 : Nat) : Int) := by rw [IntWalk.i64_in _ (by omega)]; omega
          obtain ⟨t1, ht1⟩ : ∃ t1, k + N0 = t1 := ⟨_, rfl⟩
          rw [ht1] at a1 ⊢
          have r2 : (t1 : Int) ≤ s.size := by omega
          have r3 : (k : Int) ≤ (t1 : Int) := by omega
          rcases e78 with rfl | rfl
          all_goals
            clear h3 h4 hk hk1 hN1 hl1 ht1 hx hN0 hl0 h0
            go_enter Try.func23, Try.ntmps23
            go_wp2_with fail
            refine (HP1.out _).mono ?_
            rintro e w1 ⟨rfl, rfl⟩
            go_wp2_with fail
            refine (HP0.out _).mono ?_
            rintro e w1 ⟨rfl, rfl⟩
            go_wp2
            go_ret
            exact ⟨rfl, (Below.refl _ _).alloc (Nat.le_refl _) _⟩
      · have u1 : ((s[k].toNat : Int) == 35) = false := by_no hks hx
        rw [if_neg (fun h => hx h.2.1)] at hT0
        obtain ⟨N0, hN0⟩ : ∃ N0, paramN s k = N0 := ⟨_, rfl⟩
        have HP0 := Lib.hid (fun W => refparam_le s k N0 W (by omega) (by omega) (Lib.hid hN0))
        have hl0 := paramN_le s k (by omega)
        rw [hN0] at hl0 hT0
        subst hT0
        have a1 : IntKind.i64.wrap ((k : Int) + (N0 : Int)) = ((k + N0 : Nat) : Int) := by rw [IntWalk.i64_in _ (by omega)]; omega
        obtain ⟨t1, ht1⟩ : ∃ t1, k + N0 = t1 := ⟨_, rfl⟩
        rw [ht1] at a1 ⊢
        have r2 : (t1 : Int) ≤ s.size := by omega
        have r3 : (k : Int) ≤ (t1 : Int) := by omega
        rcases e78 with rfl | rfl
        all_goals
          clear h3 h4 hk hk1 hN1 hl1 ht1 hx hN0 hl0
          go_enter Try.func23, Try.ntmps23
          go_wp2_with fail
          refine (HP0.out _).mono ?_
          rintro e w1 ⟨rfl, rfl⟩
          go_wp2
          go_ret
          exact ⟨rfl, (Below.refl _ _).alloc (Nat.le_refl _) _⟩
    · obtain rfl : k = s.size := by omega
      rw [brN_end] at hT0
      subst hT0
      have g1 : (s.size : Int) ≤ (s.size : Int) := by omega
      rcases e78 with rfl | rfl
      all_goals
        clear h3 h4 hk hks
        go_enter Try.func23, Try.ntmps23
        go_wp2
        go_ret
        exact ⟨rfl, (Below.refl _ _).alloc (Nat.le_refl _) _⟩
  · rw [if_neg e78] at hT0
    subst hT0
    have t7 : ((m : Int) != 7) = true := by simp; omega
    have t8 : ((m : Int) != 8) = true := by simp; omega
    have t7' : ((m : Int) == 7) = false := beq_eq_false_iff_ne.2 (by omega)
    have t8' : ((m : Int) == 8) = false := beq_eq_false_iff_ne.2 (by omega)
    clear h3 h4 e78
    go_enter Try.func23, Try.ntmps23
    go_wp2
    go_ret
    exact ⟨rfl, (Below.refl _ _).alloc (Nat.le_refl _) _⟩

/-- A row of texts, for reading. -/
structure RdS (w : World) (oa : Option Addr) (n : Nat) (L : List ByteArray) : Prop where
  len : n = L.length
  cells : ∀ (i : Nat) (x : ByteArray), L[i]? = some x → ∃ ob, oa = some ⟨ob, 0, none⟩ ∧ ob < w.heap.size ∧ w.cell? ⟨ob, i, none⟩ = some (.string x)
theorem RdS.below {w w' : World} {oa : Option Addr} {n : Nat} {L : List ByteArray} (h : RdS w oa n L) (hb : Below w.heap.size w w') : RdS w' oa n L :=
  ⟨h.len, fun i p hp => by
    obtain ⟨ob, h1, h2, h3⟩ := h.cells i p hp
    exact ⟨ob, h1, Nat.lt_of_lt_of_le h2 hb.size, (hb.cell (p := ⟨ob, i, none⟩) h2).trans h3⟩⟩
theorem owns_rds {w : World} {base n : Nat} {v : Value} {L : List ByteArray} (h : w.ownsRow base 9 1 v n (strCells L)) : ∃ oa oc, v = .slice oa n oc ∧ RdS w oa n L := by
  obtain ⟨oa, oc, rfl⟩ := owns_slice h
  have hn : n = L.length := by have := h.1; unfold strCells at this; rw [List.length_map] at this; omega
  refine ⟨oa, oc, rfl, hn, fun i p hp => ?_⟩
  have hl : i < L.length := (List.getElem?_eq_some_iff.1 hp).1
  obtain ⟨ob, ocap, hov, _, _, _, hlt⟩ := owns_nil h (by omega)
  obtain ⟨rfl, rfl⟩ : oa = some ⟨ob, 0, none⟩ ∧ oc = ocap := by simpa using hov
  refine ⟨ob, rfl, hlt, ?_⟩
  have := h.cells (g := ob) rfl i (.string p) (by unfold strCells; rw [List.getElem?_map, hp]; rfl)
  rwa [Addr.add_lit, Nat.zero_add] at this

def LgRl (s : ByteArray) (n : Nat) (w : World) (v5 v6 : Value) (wr : World) : Prop :=
  ∃ i k : Nat, i ≤ n ∧ v6 = .int .i64 (i : Int) ∧ v5 = .int .i64 (k : Int) ∧ k = (nmK s i).length ∧ Below w.heap.size w wr
set_option maxRecDepth 100000 in
set_option maxHeartbeats 8000000 in
theorem partsNames_law (s : ByteArray) (hmax : s.size ≤ 9223372036854775807) :
    Calls Try.prog 9 #[.string s] w fun e w' => e = .returned (.bool true) ∧ Below w.heap.size w w' := by
  by_cases hs : s.size ≤ 100
  · have hz : ¬ (100 : Int) < (s.size : Int) := by omega
    go_enter Try.func9, Try.ntmps9
    go_wp2_with fail
    refine (awake_any _).mono ?_
    rintro e w0 ⟨rfl, hB0⟩
    go_wp2_with fail
    refine (of_ref_any _ s (by omega)).mono ?_
    rintro e w1 ⟨⟨v, rfl, hP⟩, hB1⟩
    obtain ⟨oa, n, oc, rfl, hR⟩ := hP.read
    have hnl : n ≤ 100 := by have h1 := hR.len; have h2 := PL_len s; omega
    have HR1 := Lib.hid hR
    clear hR hP
    go_wp2_with fail
    refine (names_any _ s (by omega)).mono ?_
    rintro e w2 ⟨v2, rfl, hO, hB2⟩
    obtain ⟨ga, gc, rfl, hG⟩ := owns_rds hO
    have HR := Lib.hid (HR1.out.below hB2)
    have HG := Lib.hid hG
    have hB : Below w.heap.size w w2 := (hB0.trans (hB1.mono hB0.size)).trans (hB2.mono (Nat.le_trans hB0.size hB1.size))
    obtain ⟨z, hz0⟩ : ∃ z, (nmK s (PL s).length).length = z := ⟨_, rfl⟩
    have hzl : z ≤ 100 := by rw [← hz0]; have := nmK_len s (PL s).length; omega
    rw [hz0] at HG ⊢
    have HZ := Lib.hid hz0
    clear hG hO hB0 hB1 hB2 HR1 hz0
    go_wp2
    go_loopw [5, 6] (fun v5 v6 wr => LgRl s n w2 v5 v6 wr) (fun _ v _ => n - (intOf v).toNat)
    case atStart => exact ⟨0, 0, Nat.zero_le _, rfl, rfl, by unfold nmK; simp, Below.refl _ _⟩
    case round =>
      obtain ⟨i, k, hil, rfl, rfl, hk, hBr⟩ := hrel
      have hkl : k ≤ 100 := by rw [hk]; have := nmK_len s i; omega
      have hsz := hBr.size
      by_cases hlt : (i : Int) < (n : Int)
      · have hlt' : i < n := by omega
        have q0 : (0 : Int) ≤ (i : Int) := by omega
        obtain ⟨ob, p, rfl, hp, _, a0, a1, a2, a3, a4⟩ := (HR.out.below hBr).at hlt'
        have hok := PL_ok hp
        have hsu := nmK_succ hp
        have hat := fun h => nmK_at hp h (k := (PL s).length) (by have := HR.out.len; omega) (Nat.le_refl _)
        rw [← hk] at hat
        obtain ⟨T, hT⟩ : ∃ T, nameP s p = T := ⟨_, rfl⟩
        rw [hT] at hsu hat
        obtain ⟨m, f, t, up, op⟩ := p
        simp only at a0 a1 a2 a3 a4
        have HN := Lib.hid (fun W => refname7_any W s m f t up op T (Lib.hid hT) (by omega) hok)
        have HSU := Lib.hid hsu
        have HAT := Lib.hid hat
        have HK := Lib.hid hk
        have HBR := Lib.hid hBr
        clear hsu hat hp hok hT hk hBr
        by_cases hT0 : T.size = 0
        · have l1 := le_yes hT0
          have l2 := le_iyes hT0
          have HT0 := Lib.hid hT0
          clear hT0
          go_wp2_with fail
          refine (HN.out _).mono ?_
          rintro e w3 ⟨rfl, hb3⟩
          go_wp2
          go_roundw
          case rel =>
            refine ⟨i + 1, k, by omega, by go_num, rfl, ?_, HBR.out.trans (hb3.mono hsz)⟩
            rw [HSU.out, if_pos HT0.out, List.append_nil]
            exact HK.out
          case measure => simp [intOf]; omega
        · have l1 := le_no hT0
          have l2 := le_ino hT0
          have hat := HAT.out hT0
          have HT0 := Lib.hid hT0
          obtain ⟨og, rfl, _, _⟩ := HG.out.cells k T hat
          have hkz : k < z := by rw [← HZ.out]; exact (List.getElem?_eq_some_iff.1 hat).1
          have HX := Lib.hid (fun W (h : Below w2.heap.size w2 W) => show W.cell? ⟨og, k, none⟩ = some (.string T) by
            obtain ⟨og2, he, _, hx⟩ := (HG.out.below h).cells k T hat
            cases he
            exact hx)
          have g1 : ¬ (z : Int) ≤ (k : Int) := by omega
          have g2 : (k : Int) < (z : Int) := by omega
          have g3 : (0 : Int) ≤ (k : Int) := by omega
          clear hT0 hat
          go_wp2_with fail
          refine (HN.out _).mono ?_
          rintro e w3 ⟨rfl, hb3⟩
          have hB3 := HBR.out.trans (hb3.mono hsz)
          have x0 := HX.out w3 hB3
          go_wp2
          go_roundw
          case rel =>
            refine ⟨i + 1, k + 1, by omega, by go_num, by go_num, ?_, hB3⟩
            rw [HSU.out, if_neg HT0.out, List.length_append, ← HK.out]
            rfl
          case measure => simp [intOf]; omega
      · obtain rfl : n = i := by omega
        have e1 : k = z := by rw [hk, HR.out.len]; exact HZ.out
        subst e1
        have h1 : ((k : Int) == (k : Int)) = true := by simp
        clear hk
        go_wp2
        go_ret
        exact ⟨by simp, hB.trans (hBr.mono hB.size)⟩
  · have hz : (100 : Int) < (s.size : Int) := by omega
    go_enter Try.func9, Try.ntmps9
    go_wp2_with fail
    refine (awake_any _).mono ?_
    rintro e w0 ⟨rfl, hB0⟩
    go_wp2
    go_ret
    exact ⟨rfl, hB0⟩
end
end Go.Proofs.Ythelcmjgikfbjaa

/- The walk of the statement UndoRings: it returns true, and what lay in memory before stays as it was: condition: each text of the acts at most 2^47 bytes, which the reach of every statement gives. -/
import Derived.Test.YtgdamapocomhkaaUnI
import Derived.Deep.CutBlock
namespace Go.Proofs.Ytgdamapocomhkaa
open Go.RowKit Go.Shelf
set_option linter.unusedVariables false

def KillRow (w : World) (b off len : Nat) (kv mv : Nat → Int) (sv : Nat → Bs) : Prop :=
  b < w.heap.size ∧ ∀ i, i < len → w.cell? ⟨b, off + i * 3, none⟩ = some (.int .i64 (kv i)) ∧ w.cell? ⟨b, off + i * 3 + 1, none⟩ = some (.int .i64 (mv i)) ∧ w.cell? ⟨b, off + i * 3 + 2, none⟩ = some (.string (sv i))
theorem KillRow.below {w w' : World} {b off len : Nat} {kv mv : Nat → Int} {sv : Nat → Bs} (h : KillRow w b off len kv mv sv) (hb : Below w.heap.size w w') : KillRow w' b off len kv mv sv := by
  obtain ⟨hl, h⟩ := h
  have hz := hb.size
  obtain ⟨hc, _⟩ := bcell hb
  exact ⟨by omega, fun i hi => ⟨(hc _ _ hl).trans (h i hi).1, (hc _ _ hl).trans (h i hi).2.1, (hc _ _ hl).trans (h i hi).2.2⟩⟩
/-- Between two acts: the ring is the list, which lies in a row of its own. -/
structure KInv (w : World) (rb i : Nat) (x : List Bs) (v4 : Value) (wr : World) : Prop where
  rg : ∃ f, Rg wr rb f x.length ∧ (∀ j, j < x.length → f j = x[j]?.getD ⟨#[]⟩) ∧ (x.length = 0 → f 0 = ⟨#[]⟩)
  row : RowB wr rb v4 x
  small : ∀ t ∈ x, t.size ≤ 100 * i
  below : Below w.heap.size w wr
theorem KInv.le {w wr : World} {rb i : Nat} {x : List Bs} {v4 : Value} (h : KInv w rb i x v4 wr) : x.length ≤ 20 := by
  obtain ⟨f, hr, _⟩ := h.rg
  exact hr.le
theorem KInv.lt {w wr : World} {rb i : Nat} {x : List Bs} {v4 : Value} (h : KInv w rb i x v4 wr) : rb < wr.heap.size := by
  obtain ⟨f, hr, _⟩ := h.rg
  exact hr.lt
theorem KInv.ext {w wr wt : World} {rb i : Nat} {x : List Bs} {v4 : Value} (h : KInv w rb i x v4 wr) (hb : Below wr.heap.size wr wt) : KInv w rb i x v4 wt := by
  obtain ⟨f, hr, hf⟩ := h.rg
  exact ⟨⟨f, hr.below hb, hf⟩, h.row.below hb, h.small, h.below.trans (hb.mono h.below.size)⟩
theorem KInv.succ {w wr : World} {rb i : Nat} {x : List Bs} {v4 : Value} (h : KInv w rb i x v4 wr) : KInv w rb (i + 1) x v4 wr :=
  ⟨h.rg, h.row, fun t ht => by have := h.small t ht; omega, h.below⟩
def RelK (w : World) (rb len : Nat) (v4 v5 : Value) (wr : World) : Prop :=
  ∃ (i : Nat) (x : List Bs), v5 = .int .i64 i ∧ i ≤ len ∧ KInv w rb i x v4 wr
/-- Behind an act. -/
def RelL (w : World) (rb i : Nat) (v4 : Value) (wr : World) : Prop :=
  ∃ (x : List Bs), KInv w rb (i + 1) x v4 wr

theorem ring_new (w : World) : ∃ f, Rg (w.alloc (.cells #[.string ⟨#[]⟩, .string ⟨#[]⟩, .string ⟨#[]⟩, .string ⟨#[]⟩, .string ⟨#[]⟩, .string ⟨#[]⟩, .string ⟨#[]⟩, .string ⟨#[]⟩, .string ⟨#[]⟩, .string ⟨#[]⟩, .string ⟨#[]⟩, .string ⟨#[]⟩, .string ⟨#[]⟩, .string ⟨#[]⟩, .string ⟨#[]⟩, .string ⟨#[]⟩, .string ⟨#[]⟩, .string ⟨#[]⟩, .string ⟨#[]⟩, .string ⟨#[]⟩, .int .i64 0] 55)) w.heap.size f 0 ∧ f 0 = ⟨#[]⟩ := by
  have hb := Blk.new w #[.string ⟨#[]⟩, .string ⟨#[]⟩, .string ⟨#[]⟩, .string ⟨#[]⟩, .string ⟨#[]⟩, .string ⟨#[]⟩, .string ⟨#[]⟩, .string ⟨#[]⟩, .string ⟨#[]⟩, .string ⟨#[]⟩, .string ⟨#[]⟩, .string ⟨#[]⟩, .string ⟨#[]⟩, .string ⟨#[]⟩, .string ⟨#[]⟩, .string ⟨#[]⟩, .string ⟨#[]⟩, .string ⟨#[]⟩, .string ⟨#[]⟩, .string ⟨#[]⟩, .int .i64 0] 55
  refine ⟨fun _ => ⟨#[]⟩, ⟨⟨_, hb, rfl⟩, fun j hj => ?_, hb.cell 20, Nat.zero_le _⟩, rfl⟩
  rw [hb.cell j]
  obtain h | h | h | h | h | h | h | h | h | h | h | h | h | h | h | h | h | h | h | h : j = 0 ∨ j = 1 ∨ j = 2 ∨ j = 3 ∨ j = 4 ∨ j = 5 ∨ j = 6 ∨ j = 7 ∨ j = 8 ∨ j = 9 ∨ j = 10 ∨ j = 11 ∨ j = 12 ∨ j = 13 ∨ j = 14 ∨ j = 15 ∨ j = 16 ∨ j = 17 ∨ j = 18 ∨ j = 19 := by omega
  all_goals (subst h; rfl)
theorem ownsS_form {W : World} {base n : Nat} {v : Value} {l : List Value} (h : W.ownsRow base 9 1 v n l) : ∃ a cap, v = .slice a n cap ∧ n ≤ cap ∧ ∀ k, v.ownBlock = some k → base ≤ k ∧ k < W.heap.size := by
  rcases h.2 with ⟨h1, h0⟩ | ⟨g, cap, cur, hv, hb, hg, hnc, hcm, hcs, htake⟩
  · exact ⟨none, 0, by rw [h1, h0], by omega, by rw [h1]; simp [Value.ownBlock]⟩
  · exact ⟨_, cap, hv, hnc, by rw [hv]; intro k hk; obtain rfl : g = k := by simpa [Value.ownBlock] using hk
                               exact ⟨hb, (Array.getElem?_eq_some_iff.1 hg).1⟩⟩
theorem strCells_cons (z : Bs) (l : List Bs) : strCells (z :: l) = [.string z] ++ strCells l := rfl
theorem strCells_snoc (z : Bs) (l : List Bs) : strCells (l ++ [z]) = strCells l ++ [.string z] := by simp [strCells]
theorem killL_eq (x : List Bs) (s : Bs) (m : Int) : killL x s m = (killS x s m :: killX x m).take 20 := rfl
/-- The inner loop's count. -/
def RelN (n : Nat) (W0 : World) (v12 : Value) (wr : World) : Prop := ∃ k : Nat, v12 = .int .i64 k ∧ k ≤ n ∧ Below W0.heap.size W0 wr

set_option maxRecDepth 100000 in
set_option maxHeartbeats 4000000 in
theorem rings_loop (kv mv : Nat → Int) (sv : Nat → Bs) (A : Option Addr) (len cap : Nat) (w : World) (hl60 : len ≤ 60)
    (hrow : 0 < len → ∃ b off, A = some ⟨b, off, none⟩ ∧ KillRow w b off len kv mv sv) (hd : ∀ i, i < len → (sv i).size ≤ 140737488351232) :
    Calls Try.prog 5 #[.slice A len cap] w fun e w' => e = .returned (.bool true) ∧ Below w.heap.size w w' := by
  have HROW := Lib.hid hrow
  have HD := Lib.hid hd
  clear hrow hd
  have m1 : ¬ (60 : Int) < len := by omega
  go_enter Try.func5, Try.ntmps5
  go_wp2_with fail
  refine (awake_any _).mono ?_
  rintro e w1 ⟨rfl, hb1⟩
  go_wp2_with fail
  obtain ⟨f0, hR0, hf0⟩ := ring_new w1
  have hB0 : Below w.heap.size w (w1.alloc (.cells #[.string ⟨#[]⟩, .string ⟨#[]⟩, .string ⟨#[]⟩, .string ⟨#[]⟩, .string ⟨#[]⟩, .string ⟨#[]⟩, .string ⟨#[]⟩, .string ⟨#[]⟩, .string ⟨#[]⟩, .string ⟨#[]⟩, .string ⟨#[]⟩, .string ⟨#[]⟩, .string ⟨#[]⟩, .string ⟨#[]⟩, .string ⟨#[]⟩, .string ⟨#[]⟩, .string ⟨#[]⟩, .string ⟨#[]⟩, .string ⟨#[]⟩, .string ⟨#[]⟩, .int .i64 0] 55)) := hb1.alloc hb1.size _
  obtain ⟨rb, hrb⟩ : ∃ rb, w1.heap.size = rb := ⟨_, rfl⟩
  have hrw : w.heap.size ≤ rb := by rw [← hrb]; exact hb1.size
  rw [hrb] at hR0 ⊢
  generalize World.alloc w1 _ = w2 at hR0 hB0 ⊢
  clear hrb hb1
  go_loopw [4, 5] (fun v4 v5 wr => RelK w rb len v4 v5 wr) (fun _ v5 _ => len - (intOf v5).toNat)
  case atStart => exact ⟨0, [], rfl, Nat.zero_le _, ⟨⟨f0, hR0, fun j hj => by simp at hj, fun _ => hf0⟩, .inl ⟨rfl, rfl⟩, by simp, hB0⟩⟩
  case round =>
    obtain ⟨i, x, rfl, hi, hP⟩ := hrel
    have HP := Lib.hid hP
    have hbel := hP.below
    clear hP hR0 hB0
    by_cases hlt : i < len
    · obtain ⟨b, off, rfl, hr0⟩ := HROW.out (by omega)
      obtain ⟨g0, g1, g2⟩ := (hr0.below hbel).2 i hlt
      have hbl := hr0.1
      have hx : (i : Int) < len := by omega
      have hds := HD.out i hlt
      have hz1 := hbel.size
      have hbw : b < wr.heap.size := Nat.lt_of_lt_of_le hbl hz1
      clear hr0
      by_cases h100 : (100 : Int) < (sv i).size
      · go_wp2
        go_ret
        exact ⟨rfl, hbel⟩
      · obtain ⟨s, hs⟩ : ∃ s, sv i = s := ⟨_, rfl⟩
        obtain ⟨m, hm⟩ : ∃ m, mv i = m := ⟨_, rfl⟩
        obtain ⟨k, hk⟩ : ∃ k, kv i = k := ⟨_, rfl⟩
        rw [hs] at g2 h100 hds
        rw [hm] at g1
        rw [hk] at g0
        clear hs hm hk hds
        go_upto_block 2 with fail
        go_cut [4] from 39 to 175 (fun v4 wx => RelL w rb i v4 wx)
        case first =>
          have hRG := HP.out.rg
          obtain ⟨f, hR, hf, hf0⟩ := hRG
          have hsm : ∀ t ∈ x, t.size ≤ 100 * i := HP.out.small
          have hrbl := hR.lt
          have HR := Lib.hid hR
          have HF := Lib.hid hf
          have HF0 := Lib.hid hf0
          have HSM := Lib.hid hsm
          clear hR hf hf0 hsm
          by_cases e01 : k = 0 ∨ k = 1
          · have E01 := Lib.hid e01
            clear e01
            go_upto_if 39 with fail
            go_cut [39] from 39 to 41 (fun v39 wx => v39 = .bool true ∧ wx = wr)
            case first =>
              rcases E01.out with e0 | e0
              · have t0 : (k == 0) = true := by simp [e0]
                clear e0
                go_wp2
                go_meet
                case rel => exact ⟨by simp [*], rfl⟩
              · have t0 : (k == 0) = false := by simp [e0]
                have t1 : (k == 1) = true := by simp [e0]
                clear e0
                go_wp2
                go_meet
                case rel => exact ⟨by simp [*], rfl⟩
            case rest =>
              obtain ⟨rfl, rfl⟩ := hcut
              by_cases hs0 : s = ⟨#[]⟩
              · subst hs0
                go_wp2_with fail
                refine (kill_nil rb _ m).mono ?_
                rintro e w5 ⟨⟨v5, rfl⟩, hb5⟩
                go_wp2
                go_meet
                case rel => exact ⟨x, HP.out.succ.ext hb5⟩
              · have hse : s.toList.isEmpty = false := by
                  cases hh : s.toList.isEmpty with
                  | false => rfl
                  | true =>
                    exfalso
                    rw [List.isEmpty_iff, Go.ByteArray.toList_eq] at hh
                    exact hs0 (ByteArray.ext (by simpa using hh))
                have hsz : s.size ≤ 100 := by omega
                go_wp2_with fail
                refine (kill_any rb f wc x HR.out HF.out s hs0 m (fun t ht => by have := HSM.out t ht; omega)).mono ?_
                rintro e w5 ⟨⟨v5, rfl⟩, hR5, F5⟩
                have HR5 := Lib.hid hR5
                have hrow5 := HP.out.row.frm F5 (fun k hk => .inl hk)
                have hB5 : Below w.heap.size w w5 := hbel.trans (F5.below hbel.size (fun k hk => by omega))
                have h65 := F5.size
                have hF5c : ∀ (b o : Nat), b < wc.heap.size → b ≠ rb → w5.cell? ⟨b, o, none⟩ = wc.cell? ⟨b, o, none⟩ := fun b o h1 h2 => F5.cell (a := ⟨b, o, none⟩) h1 h2
                have hbrb : b ≠ rb := by omega
                have g0' := (hF5c b (off + i * 3) hbw hbrb).trans g0
                have g1' := (hF5c b (off + i * 3 + 1) hbw hbrb).trans g1
                have g2' := (hF5c b (off + i * 3 + 2) hbw hbrb).trans g2
                clear hR5 hF5c g0 g1 g2
                go_upto_region 18 with fail
                go_cut [62] from 52 to 62 (fun v62 wx => v62 = .bool (decide (0 < x.length ∧ m ≠ 0)) ∧ wx = w5)
                case first =>
                  cases hxx : x with
                  | nil =>
                    subst hxx
                    obtain ⟨a4, c4, hv4⟩ := hrow5.form
                    simp only [List.length_nil] at hv4
                    subst hv4
                    clear hrow5
                    go_wp2
                    go_meet
                    case rel => exact ⟨by simp, rfl⟩
                  | cons t r =>
                    subst hxx
                    obtain ⟨b4, o4, c4, hv4, hc4, hb4, ht4, T1, T2⟩ := hrow5.tail
                    subst hv4
                    clear T1 T2 hrow5
                    have hq1 : (0 : Int) < (r.length : Int) + 1 := by omega
                    by_cases hm0 : m = 0
                    · subst hm0
                      go_wp2
                      go_meet
                      case rel => exact ⟨by simp, rfl⟩
                    · have hz0 : (m != 0) = true := by simpa using hm0
                      go_wp2
                      go_meet
                      case rel => exact ⟨by simp [hm0], rfl⟩
                case rest =>
                obtain ⟨rfl, rfl⟩ := hcut
                go_upto_if 62 with fail
                go_cut [4, 6] from 62 to 80 (fun v4 v6 wx => v6 = .string (killS x s m) ∧ RowB wx rb v4 (killX x m) ∧ wx = wc)
                case first =>
                  by_cases hcc0 : 0 < x.length ∧ m ≠ 0
                  · have hdd : decide (0 < x.length ∧ m ≠ 0) = true := by simpa using hcc0
                    rw [hdd]
                    obtain ⟨t, r, hxx⟩ : ∃ t r, x = t :: r := by
                      cases x with
                      | nil => simp at hcc0
                      | cons t r => exact ⟨t, r, rfl⟩
                    have hm0 : ¬ m = 0 := hcc0.2
                    subst hxx
                    obtain ⟨b4, o4, c4, hv4, hc4, hb4, ht4, T1, T2⟩ := hrow5.tail
                    subst hv4
                    have hts := HSM.out t (List.mem_cons_self ..)
                    have HT1 := Lib.hid T1
                    have HT2 := Lib.hid T2
                    have hq1 : (0 : Int) < (r.length : Int) + 1 := by omega
                    have hq2 : (1 : Int) ≤ (r.length : Int) + 1 := by omega
                    clear T1 T2 hrow5 hcc0 hdd
                    by_cases hmp : (0 : Int) < m
                    · have hks : killS (t :: r) s m = t ++ s := by unfold killS; dsimp only; rw [if_pos hmp]
                      have hkx : killX (t :: r) m = r := by unfold killX; rw [if_neg hm0]; rfl
                      have HKS := Lib.hid (And.intro hks hkx)
                      have e0 : ¬ t.size + s.size > 9223372036854775807 := by omega
                      clear hks hkx
                      by_cases hcc : 1 < c4
                      · have hc8 : 0 < c4 - 1 := by omega
                        go_wp2
                        go_meet
                        case rel => rw [HKS.out.1, HKS.out.2]; exact ⟨rfl, HT1.out hcc, rfl⟩
                      · have hc9 : c4 = 1 := by omega
                        have hc8 : ¬ 0 < c4 - 1 := by omega
                        have HC9 := Lib.hid hc9
                        clear hc9
                        go_wp2
                        go_meet
                        case rel => rw [HKS.out.1, HKS.out.2]; exact ⟨rfl, HT2.out HC9.out _, rfl⟩
                    · have hmn : ¬ (0 : Int) < m := hmp
                      have hks : killS (t :: r) s m = s ++ t := by unfold killS; dsimp only; rw [if_neg hmp, if_pos (by omega)]
                      have hkx : killX (t :: r) m = r := by unfold killX; rw [if_neg hm0]; rfl
                      have HKS := Lib.hid (And.intro hks hkx)
                      have e0 : ¬ s.size + t.size > 9223372036854775807 := by omega
                      clear hks hkx
                      by_cases hcc : 1 < c4
                      · have hc8 : 0 < c4 - 1 := by omega
                        go_wp2
                        go_meet
                        case rel => rw [HKS.out.1, HKS.out.2]; exact ⟨rfl, HT1.out hcc, rfl⟩
                      · have hc9 : c4 = 1 := by omega
                        have hc8 : ¬ 0 < c4 - 1 := by omega
                        have HC9 := Lib.hid hc9
                        clear hc9
                        go_wp2
                        go_meet
                        case rel => rw [HKS.out.1, HKS.out.2]; exact ⟨rfl, HT2.out HC9.out _, rfl⟩
                  · have hdd : decide (0 < x.length ∧ m ≠ 0) = false := by simpa using hcc0
                    rw [hdd]
                    have hks : killS x s m = s ∧ killX x m = x := by
                      cases x with
                      | nil => unfold killS killX; exact ⟨rfl, by split <;> rfl⟩
                      | cons t r =>
                        have hm0 : m = 0 := by
                          apply Classical.byContradiction
                          intro h
                          exact hcc0 ⟨by simp, h⟩
                        subst hm0
                        unfold killS killX
                        exact ⟨by simp, rfl⟩
                    have HKS := Lib.hid hks
                    have HR5' := Lib.hid hrow5
                    clear hks hrow5 hcc0 hdd
                    go_wp2
                    go_meet
                    case rel => rw [HKS.out.1, HKS.out.2]; exact ⟨rfl, HR5'.out, rfl⟩
                case rest =>
                  obtain ⟨rfl, hrX, rfl⟩ := hcut
                  obtain ⟨L, hL⟩ : ∃ L, killX x m = L := ⟨_, rfl⟩
                  obtain ⟨S, hS⟩ : ∃ S, killS x s m = S := ⟨_, rfl⟩
                  rw [hL] at hrX
                  rw [hS]
                  have hkl : killL x s m = (S :: L).take 20 := by rw [killL_eq, hL, hS]
                  have hLl : L.length ≤ 20 := by
                    rw [← hL]
                    have := HP.out.le
                    unfold killX
                    split <;> simp <;> omega
                  have hrb5 : rb < wc.heap.size := by omega
                  have rs7 := hrX.below (Below.alloc (Below.refl wc.heap.size wc) (Nat.le_refl _) (.cells #[.string S] 9))
                  obtain ⟨a4, c4, hv4⟩ := hrX.form
                  subst hv4
                  have RS7 := Lib.hid rs7
                  have HKL := Lib.hid hkl
                  obtain ⟨i0, hi0, hz0, hz1, hz2⟩ := info_parts infoS
                  have hcu : 1 + L.length ≤ 1000000 := by omega
                  clear hkl hL hS rs7 hrX hse
                  by_cases h20 : (20 : Int) < 1 + L.length
                  · go_wp2_with (at_builtin; refine wpList_appS_any rfl _ _ rfl wc.heap.size rb i0 hi0 hz0 hz1 hz2 wc.heap.size 1 1 [.string S] rfl (ownsS_one wc S) _ L rfl RS7.out hcu (by simp) ?_; intro v' w7 hown7 hgrow; obtain ⟨g7, c7, rfl, hc7, hg7⟩ := ownsS_form hown7; have hq20 : (20 : Int) ≤ (c7 : Int) := by omega)
                    go_meet
                    case rel =>
                      have h57 : Below wc.heap.size wc w7 := Below.grown ((Below.refl _ _).alloc (Nat.le_refl _) _) hgrow (by simp) (fun k h => by cases h; exact Nat.le_refl _)
                      have hrow : RowB w7 rb (.slice g7 (1 + L.length) c7) (S :: L) := RowB.of_owns (base := wc.heap.size) (n := 1 + L.length) (by rw [strCells_cons]; exact hown7) (by simp; omega) hrb5
                      obtain ⟨f1, hR1, hf1⟩ := HR5.out
                      have hlen : (killL x s m).length = 20 := by rw [HKL.out]; simp; omega
                      obtain ⟨b7, o7, c7', e7, _⟩ : ∃ b o c, Value.slice g7 (1 + L.length) c7 = .slice (some ⟨b, o, none⟩) (S :: L).length c ∧ True := by
                        rcases hrow with ⟨_, h⟩ | ⟨b, o, c, h, _⟩
                        · cases h
                        · exact ⟨b, o, c, h, trivial⟩
                      obtain ⟨rfl, hl7, rfl⟩ : g7 = some ⟨b7, o7, none⟩ ∧ 1 + L.length = (S :: L).length ∧ c7 = c7' := by simpa using e7
                      rw [hl7] at hrow
                      refine ⟨killL x s m, ⟨⟨f1, hR1.below h57, hf1, fun h => by omega⟩, ?_, killL_small HSM.out hsz, hB5.trans (h57.mono hB5.size)⟩⟩
                      rw [HKL.out]
                      exact hrow.take (by simp; omega)
                  · go_wp2_with (at_builtin; refine wpList_appS_any rfl _ _ rfl wc.heap.size rb i0 hi0 hz0 hz1 hz2 wc.heap.size 1 1 [.string S] rfl (ownsS_one wc S) _ L rfl RS7.out hcu (by simp) ?_; intro v' w7 hown7 hgrow; obtain ⟨g7, c7, rfl, hc7, hg7⟩ := ownsS_form hown7)
                    go_meet
                    case rel =>
                      have h57 : Below wc.heap.size wc w7 := Below.grown ((Below.refl _ _).alloc (Nat.le_refl _) _) hgrow (by simp) (fun k h => by cases h; exact Nat.le_refl _)
                      have hrow : RowB w7 rb (.slice g7 (1 + L.length) c7) (S :: L) := RowB.of_owns (base := wc.heap.size) (n := 1 + L.length) (by rw [strCells_cons]; exact hown7) (by simp; omega) hrb5
                      obtain ⟨f1, hR1, hf1⟩ := HR5.out
                      have hkl : killL x s m = S :: L := by rw [HKL.out, List.take_of_length_le (by simp; omega)]
                      refine ⟨killL x s m, ⟨⟨f1, hR1.below h57, hf1, fun h => by rw [hkl] at h; simp at h⟩, ?_, killL_small HSM.out hsz, hB5.trans (h57.mono hB5.size)⟩⟩
                      rw [hkl]
                      exact hrow
          · have f0 : (k == 0) = false := by simp; omega
            have f1 : (k == 1) = false := by simp; omega
            by_cases e2 : k = 2
            · subst e2
              obtain ⟨hR1, hF1, hZ1⟩ : Rg wr rb f x.length ∧ (∀ j, j < x.length → f j = x[j]?.getD ⟨#[]⟩) ∧ (x.length = 0 → f 0 = ⟨#[]⟩) := ⟨HR.out, HF.out, HF0.out⟩
              have hrow1 := HP.out.row
              cases hxx : x with
              | nil =>
                subst hxx
                have hcon := turn_none rb f wr hR1
                rw [hZ1 rfl] at hcon
                have HCON := Lib.hid hcon
                obtain ⟨a4, c4, hv4⟩ := hrow1.form
                simp only [List.length_nil] at hv4
                subst hv4
                clear hcon hR1 hF1 hZ1 hrow1
                go_wp2_with fail
                refine HCON.out.mono ?_
                rintro e w5 ⟨rfl, hb5⟩
                go_wp2
                go_meet
                case rel => exact ⟨[], HP.out.succ.ext hb5⟩
              | cons a r =>
                subst hxx
                obtain ⟨z, zs, hz⟩ : ∃ z zs, r ++ [a] = z :: zs := by
                  cases r with
                  | nil => exact ⟨a, [], rfl⟩
                  | cons y ys => exact ⟨y, ys ++ [a], rfl⟩
                have hlz : zs.length = r.length := by have := congrArg List.length hz; simp at this; omega
                have htz : turned (a :: r).length f 0 = z := by
                  have := turned_at f a r hF1 0 (by simp)
                  rw [hz] at this
                  simpa using this
                have hcon := turn_some rb (a :: r).length f wr hR1 (by simp)
                rw [htz] at hcon
                have HCON := Lib.hid hcon
                have HLZ := Lib.hid hlz
                have HZ := Lib.hid hz
                clear hcon htz hlz hz
                have HTA := Lib.hid (turned_at f a r hF1)
                clear hR1 hF1 hZ1
                go_wp2_with fail
                refine HCON.out.mono ?_
                rintro e w5 ⟨rfl, hR5, F5⟩
                have hrow5 := hrow1.frm F5 (fun k hk => .inl hk)
                have hB5 : Below w.heap.size w w5 := hbel.trans (F5.below hbel.size (fun k hk => by omega))
                have h65 := F5.size
                have hrb6 : rb < w5.heap.size := by omega
                obtain ⟨b4, o4, c4, hv4, hc4, hb4, ht4, T1, T2⟩ := hrow5.tail
                subst hv4
                have HR5 := Lib.hid hR5
                have HT1 := Lib.hid T1
                have HT2 := Lib.hid T2
                have hrl : r.length ≤ 20 := by have := HP.out.le; simp at this; omega
                have hq1 : (0 : Int) < (r.length : Int) + 1 := by omega
                have hq2 : (1 : Int) ≤ (r.length : Int) + 1 := by omega
                clear hR5 T1 T2 hrow5 hrow1
                generalize hW6 : w5 = W6 at *
                go_upto_region 29 with fail
                go_cut [4] from 97 to 108 (fun v4 wx => RowB wx rb v4 (r ++ [a]) ∧ Below W6.heap.size W6 wx)
                case first =>
                  have kp : ∀ X, Below W6.heap.size W6 X → X.cell? ⟨b4, o4, none⟩ = some (.string a) := fun X hX => (hX.cell (p := ⟨b4, o4, none⟩) hb4).trans ht4
                  obtain ⟨i0, hi0, hz0, hz1, hz2⟩ := info_parts infoS
                  have hcu : 0 + r.length ≤ 1000000 := by omega
                  have hrs6 : ∀ X, Below W6.heap.size W6 X → RowB X rb (.slice (if c4 = 1 then some ⟨b4, o4, none⟩ else some ⟨b4, o4 + 1, none⟩) r.length (c4 - 1)) r := fun X hX => by
                    by_cases hcc : c4 = 1
                    · rw [if_pos hcc]; exact (HT2.out hcc o4).below hX
                    · rw [if_neg hcc]; exact (HT1.out (by omega)).below hX
                  have RS6 := Lib.hid hrs6
                  clear hrs6
                  go_region_held3 (fun X => X.cell? ⟨b4, o4, none⟩ = some (.string a))
                    ((refine kp _ ?_; (repeat (with_reducible (first | assumption | refine Below.drew ?_ | refine Below.alloc ?_ (by first | exact hwA.size | (simp <;> omega)) _ | exact Below.refl _ _))); done))
                    (first
                      | (refine step_appS_any (by rfl) _ _ (by rfl) W6.heap.size rb i0 hi0 hz0 hz1 hz2 W6.heap.size 0 0 [] (by rfl) (by first | exact ownsS_none W6 | exact (ownsS_none W6).alloc _) _ r (by rfl) (RS6.out _ (by (repeat (with_reducible (first | assumption | refine Below.drew ?_ | refine Below.alloc ?_ (by simp <;> omega) _ | exact Below.refl _ _))))) hcu (by simp <;> omega) ?_; intro vA wA hownA hgrowA; have hwA : Below W6.heap.size W6 wA := Below.grown (by (repeat (with_reducible (first | assumption | refine Below.drew ?_ | refine Below.alloc ?_ (by simp <;> omega) _ | exact Below.refl _ _)))) hgrowA (by simp <;> omega) (fun k h => by cases h; omega))
                      | (refine step_appS_any (by rfl) _ _ (by rfl) W6.heap.size rb i0 hi0 hz0 hz1 hz2 (W6.heap.size + 1) 0 0 [] (by rfl) (by exact ownsS_none1 W6 _) _ r (by rfl) (RS6.out _ (by (repeat (with_reducible (first | assumption | refine Below.drew ?_ | refine Below.alloc ?_ (by simp <;> omega) _ | exact Below.refl _ _))))) hcu (by simp <;> omega) ?_; intro vA wA hownA hgrowA; have hwA : Below W6.heap.size W6 wA := Below.grown (by (repeat (with_reducible (first | assumption | refine Below.drew ?_ | refine Below.alloc ?_ (by simp <;> omega) _ | exact Below.refl _ _)))) hgrowA (by simp <;> omega) (fun k h => by cases h; omega))
                      | (refine step_append_lies _ (by rfl) _ _ _ (by rfl) W6.heap.size 9 i0 _ 1 16 Try.underlying56 hi0 hz0 hz1 hz2 rfl (by omega) vA (0 + r.length) ([] ++ strCells r) (by rfl) (by exact hownA.alloc _) ⟨wA.heap.size, 0, none⟩ 1 1 [.string a] (by rfl) (by rfl) (by exact World.news_of_block (cs := #[.string a]) (t := 9) (fr := (0, 0)) (heap_alloc_new wA _)) (by simp [Value.oneCell']) (by omega) (by unfold maxLen; omega) (by omega) (by first | exact hwA.size | (have := hwA.size; simp; omega)) _ rfl ?_; intro g2 cap2 w7 hown7 hgrow7 hat hlt; have hw7 : Below W6.heap.size W6 w7 := Below.grown (by (repeat (with_reducible (first | assumption | refine Below.drew ?_ | refine Below.alloc ?_ (by first | exact hwA.size | (simp <;> omega)) _ | exact Below.refl _ _)))) hgrow7 (by first | exact hwA.size | (have := hwA.size; simp; omega)) (fun k h => (hownA.lt k h).1))
                      | (refine step_append_lies _ (by rfl) _ _ _ (by rfl) W6.heap.size 9 i0 _ 1 16 Try.underlying56 hi0 hz0 hz1 hz2 rfl (by omega) vA (0 + r.length) ([] ++ strCells r) (by rfl) (by exact hownA) ⟨W6.heap.size + 1, 0, none⟩ 1 1 [.string a] (by rfl) (by rfl) (by exact World.news_of_block (cs := #[.string a]) (t := 9) (fr := (0, 0)) ((hgrowA.block _ (by simp) (by simp)).trans (Blk.new1 W6 _ _ _))) (by simp [Value.oneCell']) (by omega) (by unfold maxLen; omega) (by omega) (by first | exact hwA.size | (have := hwA.size; simp; omega)) _ rfl ?_; intro g2 cap2 w7 hown7 hgrow7 hat hlt; have hw7 : Below W6.heap.size W6 w7 := Below.grown (by (repeat (with_reducible (first | assumption | refine Below.drew ?_ | refine Below.alloc ?_ (by first | exact hwA.size | (simp <;> omega)) _ | exact Below.refl _ _)))) hgrow7 (by first | exact hwA.size | (have := hwA.size; simp; omega)) (fun k h => (hownA.lt k h).1))
                      | (refine step_append_lies _ (by rfl) _ _ _ (by rfl) W6.heap.size 9 i0 _ 1 16 Try.underlying56 hi0 hz0 hz1 hz2 rfl (by omega) vA (0 + r.length) ([] ++ strCells r) (by rfl) (by exact hownA) ⟨W6.heap.size, 0, none⟩ 1 1 [.string a] (by rfl) (by rfl) (by exact World.news_of_block (cs := #[.string a]) (t := 9) (fr := (0, 0)) ((hgrowA.block _ (by simp <;> omega) (by simp)).trans ((Blk.new W6 _ _).alloc _))) (by simp [Value.oneCell']) (by omega) (by unfold maxLen; omega) (by omega) (by first | exact hwA.size | (have := hwA.size; simp; omega)) _ rfl ?_; intro g2 cap2 w7 hown7 hgrow7 hat hlt; have hw7 : Below W6.heap.size W6 w7 := Below.grown (by (repeat (with_reducible (first | assumption | refine Below.drew ?_ | refine Below.alloc ?_ (by first | exact hwA.size | (simp <;> omega)) _ | exact Below.refl _ _)))) hgrow7 (by first | exact hwA.size | (have := hwA.size; simp; omega)) (fun k h => (hownA.lt k h).1)))
                  all_goals
                    go_wp2
                    all_goals
                      go_meet
                      case rel =>
                        have ho := hown7
                        rw [List.nil_append, Nat.zero_add] at ho
                        exact ⟨RowB.of_owns (base := W6.heap.size) (n := r.length + 1) (by rw [strCells_snoc]; exact ho) (by simp) hrb6, hw7⟩
                case rest =>
                  obtain ⟨hrX, hbX⟩ := hcut
                  rw [HZ.out] at hrX
                  obtain ⟨b7, o7, c7, hv7, hc7, hb7, ht7, _, _⟩ := hrX.tail
                  subst hv7
                  have HRX := Lib.hid hrX
                  have hq3 : (0 : Int) < (zs.length : Int) + 1 := by omega
                  clear hrX
                  go_wp2
                  go_meet
                  case rel =>
                    have hF : ∃ g, Rg wc rb g (z :: zs).length ∧ (∀ j, j < (z :: zs).length → g j = (z :: zs)[j]?.getD ⟨#[]⟩) ∧ ((z :: zs).length = 0 → g 0 = ⟨#[]⟩) := by
                      refine ⟨turned (a :: r).length f, ?_, ?_, fun h => by simp at h⟩
                      · have h9 := HR5.out.below hbX
                        have : (z :: zs).length = (a :: r).length := by simp [HLZ.out]
                        rw [this]
                        exact h9
                      · have h9 := HTA.out
                        rw [HZ.out] at h9
                        exact h9
                    refine ⟨z :: zs, ⟨hF, HRX.out, fun t ht => ?_, hB5.trans (hbX.mono hB5.size)⟩⟩
                    rw [← HZ.out] at ht
                    have := HSM.out t (by simpa [or_comm] using ht)
                    omega
            · have f2 : (k == 2) = false := by simp; omega
              clear e01 e2
              go_wp2
              go_meet
              case rel => exact ⟨x, HP.out.succ⟩
        case rest =>
          obtain ⟨x2, hQ⟩ := hcut
          obtain ⟨f2, hR2, hf2, hf20⟩ := hQ.rg
          have hrow2 := hQ.row
          have hb2 := hQ.below
          have HQ := Lib.hid hQ
          have HF2 := Lib.hid hf2
          have hle2 := hR2.le
          clear hQ hf2
          go_wp2_with fail
          obtain ⟨T, hT⟩ : ∃ T, f2 0 = T := ⟨_, rfl⟩
          obtain ⟨okb, hok⟩ : ∃ b, decide (0 < x2.length) = b := ⟨_, rfl⟩
          have htop := top_any rb _ f2 _ hR2 T hT
          rw [hok] at htop
          have HTOP := Lib.hid htop
          have HT0 := Lib.hid hT
          have HOK := Lib.hid hok
          clear htop hT hok
          refine HTOP.out.mono ?_
          rintro e w5 ⟨rfl, hb5⟩
          go_wp2_with fail
          refine (texts_any rb _ f2 _ (hR2.below hb5)).mono ?_
          rintro e w6 ⟨⟨v6, rfl, hown6⟩, hb6⟩
          have hb26 : Below wc.heap.size wc w6 := hb5.trans (hb6.mono hb5.size)
          have hrow6 := hrow2.below hb26
          obtain ⟨a6, c6, rfl, hc6, hl6⟩ := ownsS_form hown6
          obtain ⟨a4, c4, rfl⟩ := hrow2.form
          have HO6 := Lib.hid hown6
          have HROW6 := Lib.hid hrow6
          have HF20 := Lib.hid hf20
          clear hown6 hrow2 hrow6 hl6 hf20
          go_upto_region 34 with fail
          go_cut [160] from 139 to 160 (fun v160 wx => v160 = .bool false ∧ wx = w6)
          case first =>
            cases hxx : x2 with
            | nil =>
              subst hxx
              obtain rfl : okb = false := HOK.out.symm
              go_wp2
              go_meet
              case rel => exact ⟨rfl, rfl⟩
            | cons z zs =>
              subst hxx
              obtain ⟨b7, o7, c7, hv7, _, _, ht7, _, _⟩ := HROW6.out.tail
              obtain ⟨rfl, rfl⟩ : a4 = some ⟨b7, o7, none⟩ ∧ c4 = c7 := by simpa using hv7
              obtain rfl : T = z := by rw [← HT0.out]; simpa using HF2.out 0 (by simp)
              obtain rfl : okb = true := by rw [← HOK.out]; simp
              have hq3 : (0 : Int) < (zs.length : Int) + 1 := by omega
              clear hv7
              go_wp2
              go_meet
              case rel => exact ⟨rfl, rfl⟩
          case rest =>
            obtain ⟨rfl, rfl⟩ := hcut
            clear hb5 hb6 hR2
            go_wp2
            go_loopw [12] (fun v12 wq => RelN x2.length wc v12 wq) (fun v12 _ => x2.length - (intOf v12).toNat)
            case atStart => exact ⟨0, rfl, Nat.zero_le _, Below.refl _ _⟩
            case round =>
              obtain ⟨q, rfl, hq, hbq⟩ := hrel
              by_cases hqn : q < x2.length
              · have hqi : (q : Int) < x2.length := by omega
                obtain ⟨y, hy⟩ : ∃ y, x2[q]?.getD ⟨#[]⟩ = y := ⟨_, rfl⟩
                have hfy : f2 q = y := by rw [← hy]; exact HF2.out q hqn
                rcases HROW6.out with ⟨_, h0⟩ | ⟨b7, o7, c7, h1, _, _, hb7, hc7⟩
                · rw [h0] at hqn; simp at hqn
                · obtain ⟨rfl, rfl⟩ : a4 = some ⟨b7, o7, none⟩ ∧ c4 = c7 := by simpa using h1
                  rcases HO6.out.2 with ⟨_, h0⟩ | ⟨g6, c8, cur, hv6, _, hg6, _⟩
                  · omega
                  · obtain ⟨rfl, rfl⟩ : a6 = some ⟨g6, 0, none⟩ ∧ c6 = c8 := by simpa using hv6
                    have hgl := (Array.getElem?_eq_some_iff.1 hg6).1
                    have d1 := HO6.out.cells (g := g6) rfl q (.string y) (by simp [hqn, hfy])
                    have e1 : (⟨g6, 0, none⟩ : Addr).add q = ⟨g6, q, none⟩ := by unfold Addr.add; split <;> simp_all
                    rw [e1] at d1
                    have d2 := hc7 q hqn
                    rw [hy] at d2
                    have k1 := (hbq.cell (p := ⟨g6, q, none⟩) hgl).trans d1
                    have k2 := (hbq.cell (p := ⟨b7, o7 + q, none⟩) hb7).trans d2
                    clear d1 d2 e1 hg6 hv6 h1 hc7 hfy hy
                    go_wp2
                    go_quiet (fail)
                    go_wp2
                    go_roundw
                    case rel => exact ⟨q + 1, by push_cast; rfl, by omega, below_drewN hbq _⟩
                    case measure => simp [intOf]; omega
              · have hqe : q = x2.length := by omega
                have hqi : ¬ (q : Int) < x2.length := by omega
                clear hqe
                go_wp2
                go_roundw
                case rel => exact ⟨i + 1, x2, by push_cast; rfl, hlt, (HQ.out.ext hb26).ext hbq⟩
                case measure => simp [intOf]; omega
    · obtain rfl : i = len := by omega
      go_wp2
      go_ret
      exact ⟨rfl, hbel⟩
end Go.Proofs.Ytgdamapocomhkaa

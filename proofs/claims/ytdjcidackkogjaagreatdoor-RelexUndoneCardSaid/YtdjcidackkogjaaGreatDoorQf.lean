/- What slices.Clone at frames, and New and Frames of layer 6 (modes) return. Condition: stacks of at most a hundred thousand frames.
What Fresh and Run of layer 6 (modes) return. Condition: texts of at most 99,000 bytes.
What ends and End of layer 6 (modes) return. Condition: texts of at most 80,000 bytes. -/
import Derived.Test.YtdjcidackkogjaaGreatDoorMdW
import Derived.Test.YtdjcidackkogjaaGreatDoorQa
import Derived.Lib.SliceRun
namespace Go.Proofs.YtdjcidackkogjaaGreatDoor
open Go.RowKit
set_option linter.unusedVariables false

theorem wpList_app_frames {ops : Array Oper} {rest : List Oper} {o : Oper} {a : Act} {w : World} {Q : Exit → Act → World → Prop} (hgd : o.guard = none) (s x : Operand)
    (ho : o.op = .call { callee := .builtin .append, args := #[s, x], argTypes := #[164, 164] })
    (base : Nat) (v0 : Value) (n0 : Nat) (xs0 : List Value) (hs : a.eval s = v0) (hown : w.ownsRow base 174 2 v0 n0 xs0) (b n c : Nat) (news : List Value)
    (hx : a.eval x = .slice (some ⟨b, 0, none⟩) n c) (hn : news.length = n * 2) (hc : ∀ j u, news[j]? = some u → w.cell? ((⟨b, 0, none⟩ : Addr).add j) = some u) (h1 : ∀ u ∈ news, u.oneCell' = true) (hl : n0 + n ≤ 1000000) (hbase : base ≤ w.heap.size)
    (h : ∀ v' w', w'.ownsRow base 174 2 v' (n0 + n) (xs0 ++ news) → w.grownBy w' v0.ownBlock → wpList Tryz.prog ops Q rest (a.put o.dst v') w') : wpList Tryz.prog ops Q (o :: rest) a w := by
  refine wpList_plain hgd fun _ hK => ?_
  obtain ⟨i, hi, hz, hsize, hby⟩ := info_parts infoF
  obtain ⟨v', w', hr', h2, h3, h4, h5⟩ := run_append_own_at (P := Tryz.prog) w base 164 o.type 174 i _ 2 16 Tryz.underlying164 hi hz hsize hby rfl (by omega) v0 n0 xs0 hown ⟨b, 0, none⟩ n c news hn hc
    h1 (by unfold maxLen; omega) (by omega) hbase
  unfold Oper.wp execOp
  simp only [ho, resolve, invoke, builtin, Sem.run_bind, Sem.run_pure, Result.andThen_ok, List.map_toArray, List.map_cons, List.map_nil, hs, hx, hr']
  exact hK _ _ (h v' w' h2 h3)

def Rs (w : World) (base : Nat) (v : Value) (l : List Fr) : Prop := ∃ g cap, v = .slice (some ⟨g, 0, none⟩) l.length cap ∧ base ≤ g ∧ Fw w g cap l
theorem Rs.below {w w' : World} {base : Nat} {v : Value} {l : List Fr} (h : Rs w base v l) (hb : Below w.heap.size w w') : Rs w' base v l := by
  obtain ⟨g, cap, h1, h2, h3⟩ := h
  exact ⟨g, cap, h1, h2, h3.frm (Frm.of_below (p := fun _ => False) hb) (fun h => h)⟩
theorem Rs.base {w : World} {b c : Nat} {v : Value} {l : List Fr} (h : Rs w b v l) (hc : c ≤ b) : Rs w c v l := by
  obtain ⟨g, cap, h1, h2, h3⟩ := h
  exact ⟨g, cap, h1, by omega, h3⟩

set_option maxHeartbeats 1000000 in
theorem cloneF_any (g cap : Nat) (l : List Fr) (w : World) (hF : Fw w g cap l) (h0 : 0 < l.length) (hl : l.length ≤ 100000) :
    Calls Tryz.prog 146 #[.slice (some ⟨g, 0, none⟩) l.length cap] w fun e w' => (∃ v, e = .returned v ∧ Rs w' w.heap.size v l) ∧ Below w.heap.size w w' := by
  have hcell : ∀ X, Below w.heap.size w X → ∀ j u, (cellsF l)[j]? = some u → X.cell? ((⟨g, 0, none⟩ : Addr).add j) = some u := by
    intro X hX j u hj
    have h1 := (hF.frm (Frm.of_below (p := fun _ => False) hX) (fun h => h)).owns
    exact h1.cells (g := g) rfl j u hj
  have heq := Lib.run_eql_slice_nil (P := Tryz.prog) w 164 174 (some ⟨g, 0, none⟩) l.length cap 0 0 Tryz.underlying164
  have HF := Lib.hid hF
  clear hF
  go_enter Tryz.func146, Tryz.ntmps146
  go_wp2_with (at_builtin; refine wpList_app_frames rfl _ _ rfl w.heap.size (.slice (some ⟨w.heap.size, 0, none⟩) 0 0) 0 [] rfl ⟨rfl, .inr ⟨w.heap.size, 0, _, rfl, Nat.le_refl _, Blk.new w _ _, Nat.le_refl _, by unfold maxLen; omega, rfl, rfl⟩⟩ g l.length cap (cellsF l) rfl (cellsF_length l) (hcell _ ((Below.refl _ _).alloc (Nat.le_refl _) _)) (cellsF_one l) (by omega) (by simp) ?_; intro v' w1 hown hgr)
  go_ret
  rw [Nat.zero_add, List.nil_append] at hown
  refine ⟨⟨_, rfl, ?_⟩, ((Below.refl w.heap.size w).alloc (Nat.le_refl _) (.cells #[] 174)).grown hgr (by simp) (fun k hk => by simp [Value.ownBlock] at hk; omega)⟩
  obtain ⟨g', cap', h1, h2, h3⟩ := Fw.of_owns hown rfl h0
  exact ⟨g', cap', h1, h2, h3⟩

section
variable (mb g cap p : Nat) (w : World)
set_option maxHeartbeats 1000000 in
theorem frames_any (x : Ms) (hM : Mc w mb g cap x p) (h0 : 0 < x.st.length) (hl : x.st.length ≤ 100000) :
    Calls Tryz.prog 127 #[.pointer (some ⟨mb, 0, none⟩)] w fun e w' => (∃ v, e = .returned v ∧ Rs w' w.heap.size v x.st.reverse) ∧ Below w.heap.size w w' := by
  have c0 : w.cell? ⟨mb, 0, none⟩ = some (.slice (some ⟨g, 0, none⟩) x.st.length cap) := hM.obj.cell 0
  have hcl := cloneF_any g cap x.st.reverse w hM.row (by simpa using h0) (by simpa using hl)
  rw [List.length_reverse] at hcl
  go_enter Tryz.func127, Tryz.ntmps127
  go_wp2_with fail
  refine hcl.mono ?_
  rintro e w1 ⟨⟨v, rfl, hR⟩, hB⟩
  go_wp2
  go_ret
  exact ⟨⟨v, rfl, hR⟩, hB⟩
set_option maxHeartbeats 1000000 in
theorem new_any :
    Calls Tryz.prog 124 #[] w fun e w' => e = .returned (.pointer (some ⟨w.heap.size + 1, 0, none⟩)) ∧ Mc w' (w.heap.size + 1) w.heap.size 1 Ms.start 0 ∧ Below w.heap.size w w' := by
  go_enter Tryz.func124, Tryz.ntmps124
  go_wp2
  go_ret
  refine ⟨by first | rfl | simp, ⟨?_, by omega, ?_⟩, ((Below.refl w.heap.size w).alloc (Nat.le_refl _) _).alloc (by simp) _⟩
  · exact World.size_alloc w _ ▸ Blk.new _ _ _
  · exact ⟨_, (Blk.new w _ _).alloc _, Nat.le_refl _, by unfold maxLen; omega, rfl, rfl⟩
theorem McTo.below {n : Nat} {w0 w w' : World} {mb g : Nat} {x : Ms} {p : Nat} (hB : Below n w0 w) (hn : n ≤ w.heap.size) (hm : n ≤ mb) (hg : n ≤ g) (h : McTo w mb g x p w') :
    ∃ g' cap', Mc w' mb g' cap' x p ∧ n ≤ g' ∧ Below n w0 w' := by
  obtain ⟨g', cap', h1, h2, h3⟩ := h
  refine ⟨g', cap', h1, by omega, hB.trans (h2.below hn ?_)⟩
  rintro k (h | h) <;> omega
end
end Go.Proofs.YtdjcidackkogjaaGreatDoor
namespace Go.Proofs.YtdjcidackkogjaaGreatDoor
open Go.RowKit
set_option linter.unusedVariables false

section
variable (mb g cap p : Nat) (w : World)
set_option maxHeartbeats 1000000 in
theorem fresh_any (x : Ms) (hM : Mc w mb g cap x p) :
    Calls Tryz.prog 128 #[.pointer (some ⟨mb, 0, none⟩)] w fun e w' => e = .returned (.bool x.fresh) ∧ w' = w := by
  have c0 : w.cell? ⟨mb, 1, none⟩ = some (.bool x.fresh) := hM.obj.cell 1
  go_enter Tryz.func128, Tryz.ntmps128
  go_wp2
  go_ret
  exact ⟨rfl, rfl⟩
def RnRel (s : ByteArray) (w : World) (v5 v9 : Value) (wr : World) : Prop :=
  ∃ k g cap, k ≤ s.size ∧ v9 = .int .i64 (k : Nat) ∧ Mc wr (w.heap.size + 1) g cap (runK s k) k ∧ w.heap.size ≤ g ∧ Below w.heap.size w wr ∧ w.heap.size + 1 < wr.heap.size
set_option maxRecDepth 100000 in
set_option maxHeartbeats 2000000 in
theorem run_any (s : ByteArray) (hs : s.size ≤ 99000) :
    Calls Tryz.prog 110 #[.string s] w fun e w' => (∃ v, e = .returned (.tuple #[v, .bool (runK s s.size).fresh]) ∧ Rs w' w.heap.size v (runK s s.size).st.reverse) ∧ Below w.heap.size w w' := by
  go_enter Tryz.func110, Tryz.ntmps110
  go_wp2_with fail
  refine (new_any w).mono ?_
  rintro e w1 ⟨rfl, hM1, hB1⟩
  go_wp2
  go_loopw [5, 9] (fun v5 v9 wr => RnRel s w v5 v9 wr) (fun _ v _ => s.size - (intOf v).toNat)
  case atStart => exact ⟨0, _, _, Nat.zero_le _, rfl, hM1, Nat.le_refl _, hB1, hM1.obj.lt⟩
  case round =>
    obtain ⟨k, g, cap, hk, rfl, hM, hg, hB, hlt⟩ := hrel
    clear hM1 hB1
    have hI := runK_inv s k
    have hlen := runK_len s k
    have hne := hI.ne
    have hsucc := runK_succ s k
    obtain ⟨x, hx⟩ : ∃ x, runK s k = x := ⟨_, rfl⟩
    rw [hx] at hM hI hlen hne hsucc
    have HX := Lib.hid hx
    clear hx
    by_cases hlt2 : (k : Int) < s.size
    · have hlt' : k < s.size := by omega
      have hby : (s[k].toNat : Int) = (by8 s k : Nat) := by unfold by8; rw [bt_eq hlt']
      have hb8 := by8_lt s k
      obtain ⟨b, hb⟩ : ∃ b, by8 s k = b := ⟨_, rfl⟩
      rw [hb] at hby hb8 hsucc
      have HB := Lib.hid hb
      have HS := Lib.hid hsucc
      have HI := Lib.hid hI
      clear hb hsucc hI
      go_wp2_with fail
      refine (feed_any (w.heap.size + 1) g cap k _ b x hM HI.out (by omega) hb8 (by omega) _ HS).mono ?_
      rintro e w2 ⟨⟨v, rfl⟩, hT⟩
      obtain ⟨g2, cap2, hM2, hg2, hB2⟩ := hT.below hB (by omega) (by omega) hg
      go_wp2
      go_roundw
      case rel => exact ⟨k + 1, g2, cap2, by omega, by go_num, hM2, hg2, hB2, hM2.obj.lt⟩
      case measure => simp [intOf]; omega
    · obtain rfl : k = s.size := by omega
      rw [← HX.out] at hM hI hlen hne
      clear hsucc
      go_wp2_with fail
      refine (frames_any (w.heap.size + 1) g cap _ _ _ hM hne (by omega)).mono ?_
      rintro e w2 ⟨⟨v, rfl, hR⟩, hB2⟩
      go_wp2_with fail
      refine (fresh_any (w.heap.size + 1) g cap _ _ _ (hM.frm (Frm.of_below (p := fun _ => False) hB2) (fun h => h) (fun h => h))).mono ?_
      rintro e w3 ⟨rfl, rfl⟩
      go_wp2
      go_ret2
      exact ⟨⟨v, rfl, hR.base (by omega)⟩, hB.trans (hB2.mono (by omega))⟩
end
end Go.Proofs.YtdjcidackkogjaaGreatDoor
namespace Go.Proofs.YtdjcidackkogjaaGreatDoor
open Go.RowKit
set_option linter.unusedVariables false

def stops (x : Ms) (b : Nat) : Bool := endsB b && (decide (x.st.length = 1) || (decide (x.st.length = 2) && decide (top x.st = 12) && decide (b ≠ 40)))
section
variable (mb g cap p : Nat) (w : World)
set_option maxHeartbeats 2000000 in
theorem ends_m (b : Nat) (x : Ms) (hM : Mc w mb g cap x p) (h0 : 0 < x.st.length) (hl : x.st.length ≤ 100000) (bb : Bool) (hbb : Hid (stops x b = bb)) :
    Calls Tryz.prog 125 #[.pointer (some ⟨mb, 0, none⟩), .int .u8 b] w fun e w' => e = .returned (.bool bb) ∧ ∃ q, w' = w.drewN q := by
  obtain ⟨st, fresh⟩ := x
  cases st with
  | nil => simp at h0
  | cons a r =>
    obtain ⟨m, f⟩ := a
    obtain ⟨z, hz⟩ : ∃ z, z = r.length + 1 := ⟨_, rfl⟩
    have c0 : w.cell? ⟨mb, 0, none⟩ = some (.slice (some ⟨g, 0, none⟩) z cap) := by rw [hz]; exact hM.obj.cell 0
    simp only [List.length_cons] at hl
    obtain ⟨eb, heb⟩ : ∃ eb, endsB b = eb := ⟨_, rfl⟩
    have hst : stops ⟨(m, f) :: r, fresh⟩ b = (eb && (decide (z = 1) || (decide (z = 2) && decide (m = 12) && decide (b ≠ 40)))) := by
      unfold stops
      rw [heb, hz]
      rfl
    rw [hbb.out] at hst
    have HB := Lib.hid heb
    cases eb with
    | false =>
      have e : bb = false := by rw [hst]; simp
      clear hst hbb
      subst e
      clear hz
      go_enter Tryz.func125, Tryz.ntmps125
      go_wp2_with fail
      refine (ends_any _ _).mono ?_
      rw [heb]
      rintro e w1 ⟨rfl, rfl⟩
      go_wp2
      go_ret
      exact ⟨rfl, 0, rfl⟩
    | true =>
      by_cases h2 : z = 2
      · have u2 : ((z : Int) == 2) = true := beq_iff_eq.2 (by omega)
        by_cases h12 : m = 12
        · by_cases h40 : b = 40
          · have e : bb = false := by rw [hst]; simp [h2, h40]
            have v1 : ((m : Int) == 12) = true := beq_iff_eq.2 (by omega)
            have v2 : ((b : Int) == 40) = true := beq_iff_eq.2 (by omega)
            clear hst hbb
            subst e
            subst h12 h40
            have hb' : endsB 40 = true := heb
            clear hz h2
            go_enter Tryz.func125, Tryz.ntmps125
            go_wp2_with fail
            refine (ends_any _ _).mono ?_
            rw [hb']
            rintro e w1 ⟨rfl, rfl⟩
            go_wp2_with fail
            refine (mode_any mb g cap p _ 12 f r fresh hM (by omega)).mono ?_
            rintro e w1 ⟨rfl, q, rfl⟩
            go_wp2
            go_ret
            exact ⟨rfl, q, rfl⟩
          · have e : bb = true := by rw [hst]; simp [h2, h12, h40]
            have v2 : ((b : Int) == 40) = false := beq_eq_false_iff_ne.2 (by omega)
            have v3 : ((b : Int) != 40) = true := by rw [bne, v2]; rfl
            clear hst hbb
            subst e
            subst h12
            clear hz h2 h40
            go_enter Tryz.func125, Tryz.ntmps125
            go_wp2_with fail
            refine (ends_any _ _).mono ?_
            rw [heb]
            rintro e w1 ⟨rfl, rfl⟩
            go_wp2_with fail
            refine (mode_any mb g cap p _ 12 f r fresh hM (by omega)).mono ?_
            rintro e w1 ⟨rfl, q, rfl⟩
            go_wp2
            go_ret
            exact ⟨rfl, q, rfl⟩
        · have e : bb = false := by rw [hst]; simp [h2, h12]
          have v1 : ((m : Int) == 12) = false := beq_eq_false_iff_ne.2 (by omega)
          clear hst hbb
          subst e
          clear hz h2 h12
          go_enter Tryz.func125, Tryz.ntmps125
          go_wp2_with fail
          refine (ends_any _ _).mono ?_
          rw [heb]
          rintro e w1 ⟨rfl, rfl⟩
          go_wp2_with fail
          refine (mode_any mb g cap p _ m f r fresh hM (by omega)).mono ?_
          rintro e w1 ⟨rfl, q, rfl⟩
          go_wp2
          go_ret
          exact ⟨rfl, q, rfl⟩
      · have u2 : ((z : Int) == 2) = false := beq_eq_false_iff_ne.2 (by omega)
        have u1 : ((z : Int) == 1) = bb := by
          rw [hst, Bool.eq_iff_iff, beq_iff_eq]
          simp [h2]
          omega
        clear hst hbb hz h2
        go_enter Tryz.func125, Tryz.ntmps125
        go_wp2_with fail
        refine (ends_any _ _).mono ?_
        rw [heb]
        rintro e w1 ⟨rfl, rfl⟩
        go_wp2
        go_ret
        exact ⟨rfl, 0, rfl⟩
end

def fromK (s : ByteArray) (a p k : Nat) : Ms := runG Ms.start (fun i => by8 s (a + i)) p k
def IsEnd (s : ByteArray) (a p n : Nat) : Prop := a ≤ n ∧ n ≤ s.size ∧ (∀ i, a ≤ i → i < n → stops (fromK s a p (i - a)) (by8 s i) = false) ∧ (n < s.size → stops (fromK s a p (n - a)) (by8 s n) = true)
theorem fromK_succ (s : ByteArray) (a p k : Nat) : fromK s a p (k + 1) = feed (fromK s a p k) (by8 s (a + k)) (p + k) := rfl
theorem fromK_inv (s : ByteArray) (a p k : Nat) : Inv (fromK s a p k) := runG_inv Inv.start _ _ k
theorem fromK_len (s : ByteArray) (a p k : Nat) : (fromK s a p k).st.length ≤ k + 1 := by
  have := runG_len Ms.start (fun i => by8 s (a + i)) p k
  have e : Ms.start.st.length = 1 := rfl
  unfold fromK
  omega

set_option maxRecDepth 100000 in
set_option maxHeartbeats 4000000 in
theorem mend_any (w : World) (s : ByteArray) (a : Nat) (ha : a ≤ s.size) (hs : s.size ≤ 80000) :
    Calls Tryz.prog 109 #[.string s, .int .i64 (a : Int)] w fun e w' => (∃ n : Nat, e = .returned (.int .i64 (n : Int)) ∧ IsEnd s a 0 n) ∧ Below w.heap.size w w' := by
  have t1 : decide ((a : Int) < 0) = false := decide_eq_false_iff_not.2 (by omega)
  have t2 : decide ((s.size : Int) < (a : Int)) = false := decide_eq_false_iff_not.2 (by omega)
  have t3 : decide (s.size < a) = false := decide_eq_false_iff_not.2 (by omega)
  go_enter Tryz.func109, Tryz.ntmps109
  go_wp2_with fail
  refine (new_any w).mono ?_
  rintro e w1 ⟨rfl, hM1, hB1⟩
  clear t1 t2 t3
  go_wp2
  go_loopw [1, 4] (fun v1 v4 wr => ∃ k g cap, a + k ≤ s.size ∧ v1 = .int .i64 ((a + k : Nat) : Int) ∧ Mc wr (w.heap.size + 1) g cap (fromK s a 0 k) k ∧ w.heap.size ≤ g ∧ Below w.heap.size w wr ∧ Hid (∀ i, a ≤ i → i < a + k → stops (fromK s a 0 (i - a)) (by8 s i) = false)) (fun v _ _ => s.size - (intOf v).toNat)
  case atStart => exact ⟨0, _, _, by omega, rfl, hM1, Nat.le_refl _, hB1, Lib.hid fun i h1 h2 => by omega⟩
  case round =>
    obtain ⟨k, g, cap, hk, rfl, hM, hg, hB, HNO⟩ := hrel
    clear hM1 hB1
    have hI := fromK_inv s a 0 k
    have hlen := fromK_len s a 0 k
    have hne := hI.ne
    have hsucc := fromK_succ s a 0 k
    rw [Nat.zero_add] at hsucc
    obtain ⟨x, hx⟩ : ∃ x, fromK s a 0 k = x := ⟨_, rfl⟩
    rw [hx] at hM hI hlen hne hsucc
    have HX := Lib.hid hx
    clear hx
    obtain ⟨j, hj⟩ : ∃ j, a + k = j := ⟨_, rfl⟩
    have hkj : k ≤ j := by omega
    rw [hj] at hk hsucc ⊢
    by_cases hlt : j < s.size
    · have hlt2 : (j : Int) < s.size := by omega
      have hq0 : (0 : Int) ≤ (j : Int) := by omega
      have hby : (s[j].toNat : Int) = (by8 s j : Nat) := by unfold by8; rw [bt_eq hlt]
      have hb8 := by8_lt s j
      obtain ⟨b, hb⟩ : ∃ b, by8 s j = b := ⟨_, rfl⟩
      rw [hb] at hby hb8 hsucc
      have HB := Lib.hid hb
      have HS := Lib.hid hsucc
      have HI := Lib.hid hI
      have HJ := Lib.hid hj
      clear hb hsucc hI hj
      obtain ⟨bb, hbb⟩ : ∃ bb, stops x b = bb := ⟨_, rfl⟩
      have HBB := Lib.hid hbb
      clear hbb
      have hends := ends_m (w.heap.size + 1) g cap k wr b x hM hne (by omega) bb HBB
      cases bb with
      | true =>
        go_wp2_with fail
        refine hends.mono ?_
        rintro e w2 ⟨rfl, q, rfl⟩
        go_wp2
        go_ret
        refine ⟨⟨j, rfl, by have := HJ.out; omega, by omega, fun i h1 h2 => HNO.out i h1 (by have := HJ.out; omega), fun _ => ?_⟩, ⟨hB.os, hB.tape, hB.output, hB.size, hB.block⟩⟩
        rw [HB.out, show j - a = k by have := HJ.out; omega, HX.out]
        exact HBB.out
      | false =>
        go_wp2_with fail
        refine hends.mono ?_
        rintro e w2 ⟨rfl, q, rfl⟩
        go_wp2_with fail
        refine (feed_any (w.heap.size + 1) g cap k _ b x (hM.drn q) HI.out (by omega) hb8 (by omega) _ HS).mono ?_
        rintro e w3 ⟨⟨v, rfl⟩, hT⟩
        have hBq : Below w.heap.size w (wr.drewN q) := ⟨hB.os, hB.tape, hB.output, hB.size, hB.block⟩
        obtain ⟨g2, cap2, hM2, hg2, hB2⟩ := hT.below hBq hBq.size (by omega) hg
        go_wp2
        go_roundw
        case rel =>
          refine ⟨k + 1, g2, cap2, by have := HJ.out; omega, ?_, hM2, hg2, hB2, Lib.hid fun i h1 h2 => ?_⟩
          · have := HJ.out
            rw [show a + (k + 1) = j + 1 by omega]
            go_num
          · by_cases h3 : i = j
            · rw [h3, HB.out, show j - a = k by have := HJ.out; omega, HX.out]
              exact HBB.out
            · exact HNO.out i h1 (by have := HJ.out; omega)
        case measure => simp [intOf]; omega
    · obtain rfl : j = s.size := by omega
      have HJ := Lib.hid hj
      clear hsucc hj
      go_wp2
      go_ret
      exact ⟨⟨s.size, rfl, by have := HJ.out; omega, Nat.le_refl _, fun i h1 h2 => HNO.out i h1 (by have := HJ.out; omega), fun h => by omega⟩, hB⟩
end Go.Proofs.YtdjcidackkogjaaGreatDoor

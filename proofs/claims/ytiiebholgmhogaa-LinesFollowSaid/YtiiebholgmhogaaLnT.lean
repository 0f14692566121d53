/- What Apply of layer 3 (lines) does where an edit goes: the index is that of the text behind it. Condition: texts of at most a hundred thousand bytes; the index at hand lies in memory as such. -/
import Derived.Test.YtiiebholgmhogaaLnR
import Derived.Test.YtiiebholgmhogaaLnH
import Derived.Deep.RegionWith
import Derived.Deep.CutBlock
namespace Go.Proofs.Ytiiebholgmhogaa
open Go.RowKit Go.Shelf
set_option linter.unusedVariables false

theorem countN_any (d : ByteArray) (w : World) :
    Calls Try.prog 26 #[.string d, .string ⟨#[10]⟩] w fun e w' => e = .returned (.int .i64 (ct d d.size : Nat)) ∧ w' = w := by
  refine (Try.strings_Count_one d 10 w).mono ?_
  rintro e w' ⟨rfl, rfl⟩
  refine ⟨?_, rfl⟩
  rw [← count_all d]
  rfl

theorem own_form {w : World} {base n : Nat} {t : TypeId} {size : Nat} {v : Value} {xs : List Value} (h : w.ownsRow base t size v n xs) : ∃ a c, v = .slice a n c := by
  rcases h.2 with ⟨h, h0⟩ | ⟨g, cap, cur, h, _⟩
  · exact ⟨none, 0, by rw [h, h0]⟩
  · exact ⟨_, _, h⟩
/-- One int of a row is written. -/
theorem own_put {w : World} {t : TypeId} {g cap N : Nat} {L : List Value} (h : w.ownsRow 0 t 1 (.slice (some ⟨g, 0, none⟩) N cap) N L) (k : Nat) (v : Value) : (w.setCell ⟨g, k, none⟩ v).ownsRow 0 t 1 (.slice (some ⟨g, 0, none⟩) N cap) N (L.set k v) := by
  rcases h.2 with ⟨h0, _⟩ | ⟨g', cap', cur, h0, _, hg, hnc, hcm, hcs, htk⟩
  · cases h0
  · cases h0
    have hB : Blk w g cur t := hg
    refine owns_of_blk (hB.set k v) (by simp; omega) hnc hcm ?_
    rw [Nat.mul_one] at htk
    rw [Array.toList_setIfInBounds, List.take_set, htk]
theorem own_at {w : World} {t : TypeId} {g cap N : Nat} {L : List Value} (h : w.ownsRow 0 t 1 (.slice (some ⟨g, 0, none⟩) N cap) N L) {k : Nat} {v : Value} (hv : L[k]? = some v) : w.cell? ⟨g, k, none⟩ = some v ∧ w.frozen? ⟨g, k, none⟩ = false := by
  constructor
  · have hc := h.cells (g := g) rfl k v hv
    rw [Addr.add_lit, Nat.zero_add] at hc
    exact hc
  · rcases h.2 with ⟨h0, _⟩ | ⟨g', cap', cur, h0, _, hg, _⟩
    · cases h0
    · cases h0
      have hB : Blk w g cur t := hg
      exact hB.frozen k
/-- A place, moved or not. -/
def shN (bs : List Nat) (more : Int) (r m k : Nat) : Int := if r ≤ k ∧ k < m then ((bs[k]?.getD 0 : Nat) : Int) + more else ((bs[k]?.getD 0 : Nat) : Int)
theorem shN_step {bs : List Nat} {more : Int} {r i N : Nat} {L : List Value} (hL : ∀ k, k < N → L[k]? = some (.int .i64 (shN bs more r (r + i) k))) (hlen : L.length = N) (hi : r + i < N) :
    ∀ k, k < N → (L.set (r + i) (.int .i64 (((bs[r + i]?.getD 0 : Nat) : Int) + more)))[k]? = some (.int .i64 (shN bs more r (r + (i + 1)) k)) := fun k hk => by
  rw [List.getElem?_set]
  by_cases c : r + i = k
  · subst c
    rw [if_pos rfl, if_pos (by omega)]
    unfold shN
    rw [if_pos (by omega)]
  · rw [if_neg c, hL k hk]
    unfold shN
    by_cases c2 : r ≤ k ∧ k < r + i
    · rw [if_pos c2, if_pos (by omega)]
    · rw [if_neg c2, if_neg (by omega)]
theorem shN_end {bs : List Nat} {x y r N : Nat} {L : List Value} (hL : ∀ k, k < N → L[k]? = some (.int .i64 (shN bs ((x : Int) - y) r (r + (N - r)) k))) (hlen : L.length = N) (hN : bs.length = N) (hr : r ≤ N) (hb : ∀ z ∈ bs.drop r, y ≤ z) :
    L = intCells (bs.take r ++ (bs.drop r).map (fun z => z + x - y)) := by
  apply List.ext_getElem?
  intro k
  by_cases hk : k < N
  · rw [hL k hk]
    unfold intCells
    rw [List.getElem?_map]
    have hkb : k < bs.length := by omega
    by_cases c : k < r
    · rw [List.getElem?_append_left (by simp; omega), List.getElem?_take_of_lt c, List.getElem?_eq_getElem hkb]
      unfold shN
      rw [if_neg (by omega), List.getElem?_eq_getElem hkb]
      rfl
    · have e : (bs.drop r)[k - r]? = some bs[k] := by
        rw [List.getElem?_drop, show r + (k - r) = k from by omega, List.getElem?_eq_getElem hkb]
      have hy := hb bs[k] (List.mem_of_getElem? e)
      rw [List.getElem?_append_right (by simp; omega), List.getElem?_map, show (bs.take r).length = r from by simp; omega, e]
      unfold shN
      rw [if_pos (by omega), List.getElem?_eq_getElem hkb]
      simp only [Option.getD_some, Option.map_some, intV]
      congr 2
      omega
  · rw [List.getElem?_eq_none (by omega), List.getElem?_eq_none (by simp [intCells]; omega)]

section
variable (s d n : ByteArray) (xb : Nat) (sv : Value) (w : World)
set_option maxRecDepth 100000 in
set_option maxHeartbeats 4000000 in
theorem apply_good (a : Nat) (hs : s.size ≤ 100000) (hd : d.size ≤ 100000) (hn : n.size ≤ 100000) (hI : Ix w xb sv s) (hf : fits s a d) :
    Calls Try.prog 17 #[.pointer (some ⟨xb, 0, none⟩), .agg #[.int .i64 a, .string d, .string n]] w fun e w' => e = .returned (.int .i64 0) ∧ ∃ sv', Ix w' xb sv' (doB s a d n) ∧ Frm (fun k => k = xb ∨ sv.ownBlock = some k) w w' ∧ ∀ k, sv'.ownBlock = some k → sv.ownBlock = some k ∨ w.heap.size ≤ k := by
  have hs1 : s.size ≤ 1000000 := by omega
  have c1 : w.cell? ⟨xb, 1, none⟩ = some (.int .i64 (s.size : Int)) := hI.obj.cell 1
  have c0 : w.cell? ⟨xb, 0, none⟩ = some sv := hI.obj.cell 0
  have hl := hI.lt
  obtain ⟨hB1, hB2, hB3⟩ := br_edit (n := n) hf
  have hle := hf.1
  have hct := ct_le s s.size
  have hctr := ct_mono s (j := a + d.size) (k := s.size) (by omega)
  obtain ⟨F, hF⟩ : ∃ F : Int → Nat, F = fun k => ct s k.toNat := ⟨_, rfl⟩
  have HA : ∀ (k : Int) w', 0 ≤ k → k ≤ s.size → Below w.heap.size w w' → Calls Try.prog 24 #[.pointer (some ⟨xb, 0, none⟩), .int .i64 k] w' fun e w'' => e = .returned (.int .i64 (F k : Nat)) ∧ Drew w' w'' := fun k w' h0 h1 hb => by
    obtain ⟨m, rfl⟩ := Int.eq_ofNat_of_zero_le h0
    rw [hF]
    simpa using ahead_any s xb sv w' hs1 (hI.below hb) m (by omega)
  have f1 : F (a : Int) = ct s a := by rw [hF]; simp
  have f2 : F ((a : Int) + d.size) = ct s (a + d.size) := by
    rw [hF]
    show ct s ((a : Int) + d.size).toNat = _
    rw [show ((a : Int) + (d.size : Int)).toNat = a + d.size from by omega]
  obtain ⟨f, hff⟩ : ∃ f, ct s a = f := ⟨_, rfl⟩
  obtain ⟨r, hr⟩ : ∃ r, ct s (a + d.size) = r := ⟨_, rfl⟩
  obtain ⟨q, hq⟩ : ∃ q, ct d d.size = q := ⟨_, rfl⟩
  have HC : ∀ w', Calls Try.prog 26 #[.string d, .string ⟨#[10]⟩] w' fun e w'' => e = .returned (.int .i64 (q : Nat)) ∧ w'' = w' := fun w' => by
    have := countN_any d w'
    rwa [hq] at this
  rw [hff] at hB1 hB2 f1
  rw [hr] at hB1 hB2 hB3 hctr f2
  rw [hq] at hB1
  have hfr : f ≤ r := by omega
  have e1 : decide ((a : Int) < 0) = false := by simp
  have e2 : decide ((s.size : Int) < a) = false := by simp; omega
  have e2' : decide (s.size < a) = false := by simp; omega
  have e3 : decide ((s.size : Int) - a < d.size) = false := by simp; omega
  have w1 : IntKind.i64.wrap ((s.size : Int) - a) = (s.size : Int) - a := IntWalk.i64_in _ (by omega)
  have w2 : IntKind.i64.wrap ((a : Int) + d.size) = (a : Int) + d.size := IntWalk.i64_in _ (by omega)
  have w3 : IntKind.i64.wrap ((r : Int) - f) = (q : Int) := by rw [IntWalk.i64_in _ (by omega)]; omega
  have w4 : IntKind.i64.wrap ((n.size : Int) - d.size) = (n.size : Int) - d.size := IntWalk.i64_in _ (by omega)
  have w5 : (0 : Int) ≤ (a : Int) + d.size := by omega
  have w6 : (a : Int) + d.size ≤ s.size := by omega
  have w7 : (0 : Int) ≤ (a : Int) := by omega
  have w8 : (a : Int) ≤ s.size := by omega
  have HB1 := Lib.hid hB1
  have HB2 := Lib.hid hB2
  have HB3 := Lib.hid hB3
  have HAH := Lib.hid HA
  have HCC := Lib.hid HC
  clear hB1 hB2 hB3 HA HC hff hr hq hF hle
  go_enter Try.func17, Try.ntmps17
  go_wp2
  go_quiet (fail)
  obtain ⟨eb, heb⟩ : ∃ eb, w.heap.size = eb := ⟨_, rfl⟩
  obtain ⟨W, hW⟩ : ∃ W, W = (w.alloc (.cells #[.int .i64 (a : Int), .string d, .string n] 41)).drewN nq := ⟨_, rfl⟩
  have hbW : Below w.heap.size w W := hW ▸ below_drewN ((Below.refl _ _).alloc (Nat.le_refl _) _) _
  have hEB : Blk W eb #[.int .i64 (a : Int), .string d, .string n] 41 := by
    rw [← heb, hW]
    exact (Blk.new w _ _).drewN nq
  rw [← hW]
  rw [heb] at hl ⊢
  have HEB := Lib.hid heb
  clear hW heb c0 c1
  have hIW := hI.below hbW
  have d0 : W.cell? ⟨eb, 0, none⟩ = some (.int .i64 (a : Int)) := hEB.cell 0
  have d1 : W.cell? ⟨eb, 1, none⟩ = some (.string d) := hEB.cell 1
  have d2 : W.cell? ⟨eb, 2, none⟩ = some (.string n) := hEB.cell 2
  have x0 : W.cell? ⟨xb, 0, none⟩ = some sv := hIW.obj.cell 0
  have x1 : W.cell? ⟨xb, 1, none⟩ = some (.int .i64 (s.size : Int)) := hIW.obj.cell 1
  go_wp2
  go_quiet ((go_at_call 24; exact quiet_of_drew (HAH.out _ _ (by assumption) (by assumption) (below_drewN hbW _))))
  rw [f1, f2]
  clear f1 f2
  obtain ⟨V, hV⟩ : ∃ V, V = W.drewN nq := ⟨_, rfl⟩
  have hbV : Below w.heap.size w V := hV ▸ below_drewN hbW _
  have hEV : Blk V eb #[.int .i64 (a : Int), .string d, .string n] 41 := hV ▸ hEB.drewN nq
  rw [← hV]
  clear hV d0 d1 d2 x0 x1 hIW hEB hbW
  have hIV := hI.below hbV
  have d0 : V.cell? ⟨eb, 0, none⟩ = some (.int .i64 (a : Int)) := hEV.cell 0
  have d1 : V.cell? ⟨eb, 1, none⟩ = some (.string d) := hEV.cell 1
  have d2 : V.cell? ⟨eb, 2, none⟩ = some (.string n) := hEV.cell 2
  have x0 : V.cell? ⟨xb, 0, none⟩ = some sv := hIV.obj.cell 0
  obtain ⟨N, hN⟩ : ∃ N, ct s s.size = N := ⟨_, rfl⟩
  have hform := hIV.form
  rw [hN] at hctr hct hform
  have HN := Lib.hid hN
  clear hN
  have k1 : (r : Int) ≤ N := by omega
  go_upto_region 7 with (go_at_call 26; refine (HCC.out _).mono ?_; rintro e U ⟨rfl, rfl⟩)
  go_cut [66, 67] from 60 to 67 (fun v66 v67 wx => v66 = .int .i64 ((N - r : Nat) : Int) ∧ v67 = .int .i64 0 ∧ wx = U)
  case first =>
    rcases hform with ⟨rfl, h0⟩ | ⟨g, cap, rfl, hnc, hg, hgx, hc⟩
    · subst h0
      obtain rfl : r = 0 := by omega
      go_wp2
      go_meet
      case rel => exact ⟨rfl, rfl, rfl⟩
    · by_cases hcr : cap = r
      · obtain rfl : N = cap := by omega
        subst hcr
        clear hc
        go_wp2
        go_meet
        case rel => exact ⟨by simp, rfl, rfl⟩
      · clear hc
        go_wp2
        go_meet
        case rel => exact ⟨by simp, rfl, rfl⟩
  case rest =>
    obtain ⟨rfl, rfl, rfl⟩ := hcut
    have hIU := hIV
    have hrow0 := hIU.row
    have hbs : (br s s.size).length = N := by rw [br_length]; exact HN.out
    rw [HN.out] at hrow0
    obtain ⟨bs, hbse⟩ : ∃ bs, br s s.size = bs := ⟨_, rfl⟩
    rw [hbse] at hrow0 hbs
    have hbz : ∀ k, bs[k]?.getD 0 ≤ 100000 := fun k => by
      by_cases hk : k < bs.length
      · rw [List.getElem?_eq_getElem hk]
        have := br_lt s bs[k] (by rw [hbse]; exact List.getElem_mem hk)
        simp; omega
      · rw [List.getElem?_eq_none (by omega)]; simp
    have HBS := Lib.hid hbse
    have hxb := hIU.obj
    have hap := hIU.apart
    have hlU : xb < wc.heap.size := hxb.lt
    have hnE : eb ≠ xb := by have := HEB.out; omega
    have hEf : ∀ k, sv.ownBlock = some k → k ≠ eb := fun k hk h => by
      have := own_lt hI.row k hk
      have := HEB.out
      omega
    obtain ⟨more, hmore⟩ : ∃ more : Int, (n.size : Int) - d.size = more := ⟨_, rfl⟩
    have hm1 : -100000 ≤ more ∧ more ≤ 100000 := by omega
    rw [hmore]
    have HMO := Lib.hid hmore
    clear hbse hIV w4 x0 hform hIU hmore
    go_wp2
    go_loopw [67] (fun v67 wr => ∃ i : Nat, ∃ L : List Value, i ≤ N - r ∧ v67 = .int .i64 i ∧ wr.ownsRow 0 3 1 sv N L ∧ (∀ k, k < N → L[k]? = some (.int .i64 (shN bs more r (r + i) k))) ∧ Frm (fun k => sv.ownBlock = some k) wc wr)
      (fun v67 _ => N - r - (intOf v67).toNat)
    case atStart =>
      refine ⟨0, _, Nat.zero_le _, rfl, hrow0, fun k hk => ?_, Frm.refl _ _⟩
      have hkb : k < bs.length := by omega
      unfold shN
      rw [if_neg (by omega)]
      simp [intCells, intV, hkb]
    case round =>
      obtain ⟨i, L, hi, rfl, hrow, hL, hFr⟩ := hrel
      have hLl : L.length = N := by have := hrow.1; omega
      have x0 : wr.cell? ⟨xb, 0, none⟩ = some sv := (hxb.frm hFr (fun h => hap xb h rfl)).cell 0
      by_cases hlt : (i : Int) < ((N - r : Nat) : Int)
      · have hri : r + i < N := by omega
        rcases hrow.2 with ⟨_, h0⟩ | ⟨g, cap, cur, rfl, _, _, hnc, hcm, _⟩
        · omega
        · obtain ⟨c0, f0⟩ := own_at hrow (hL (r + i) hri)
          have hv0 : shN bs more r (r + i) (r + i) = ((bs[r + i]?.getD 0 : Nat) : Int) := by unfold shN; rw [if_neg (by omega)]
          rw [hv0] at c0
          have hnew := own_put hrow (r + i) (.int .i64 (((bs[r + i]?.getD 0 : Nat) : Int) + more))
          have hstep := shN_step hL hLl hri
          have hz := hbz (r + i)
          have hgx : g ≠ xb := hap g rfl
          obtain ⟨v, hv⟩ : ∃ v, bs[r + i]?.getD 0 = v := ⟨_, rfl⟩
          rw [hv] at c0 hnew hstep hz
          have q1 : IntKind.i64.wrap ((r : Int) + i) = ((r + i : Nat) : Int) := by rw [IntWalk.i64_in _ (by omega)]; omega
          have q2 : IntKind.i64.wrap ((v : Int) + more) = (v : Int) + more := IntWalk.i64_in _ (by omega)
          have q3 : ((r + i : Nat) : Int) < (N : Int) := by omega
          have HHR := Lib.hid hrow
          have HNW := Lib.hid hnew
          have HST := Lib.hid hstep
          have HLL := Lib.hid hLl
          clear hv hrow hnew hstep hL hLl hv0 hbz
          go_wp2
          go_roundw
          case rel => exact ⟨i + 1, _, by omega, by go_num, HNW.out, HST.out, hFr.setCell (b := g) (r + i) (.inl rfl) _⟩
          case measure => simp [intOf]; omega
      · obtain rfl : i = N - r := by omega
        have hL1 := shN_end (x := n.size) (y := d.size) (by rw [HMO.out]; exact hL) hLl hbs (by omega) (fun z hz => by
          have := HB3.out z (by rw [HBS.out]; exact hz)
          omega)
        rw [hL1] at hrow
        obtain ⟨L1, hL1e⟩ : ∃ L1, bs.take r ++ (bs.drop r).map (fun z => z + n.size - d.size) = L1 := ⟨_, rfl⟩
        rw [hL1e] at hrow
        have HL1 := Lib.hid hL1e
        clear hL hL1 hL1e hLl hbz hlt hrow0
        have hxr := hxb.frm hFr (fun h => hap xb h rfl)
        have hEr := hEV.frm hFr (fun h => hEf eb h rfl)
        have x0 : wr.cell? ⟨xb, 0, none⟩ = some sv := hxr.cell 0
        have d0 : wr.cell? ⟨eb, 0, none⟩ = some (.int .i64 (a : Int)) := hEr.cell 0
        have d2 : wr.cell? ⟨eb, 2, none⟩ = some (.string n) := hEr.cell 2
        go_upto_region 12 with fail
        go_cut [] from 83 to 97 (fun wx => ∃ sv', Blk wx xb #[sv', .int .i64 (s.size : Int)] 50 ∧ wx.ownsRow 0 3 1 sv' (f + ct n n.size + (N - r)) (intCells (L1.take f ++ (br n n.size).map (a + ·) ++ L1.drop r)) ∧ (∀ k, sv'.ownBlock = some k → sv.ownBlock = some k ∨ wr.heap.size ≤ k) ∧ Frm (fun k => k = xb ∨ sv.ownBlock = some k) wr wx)
        case first =>
          have hM := fun X => moved_any n a (by omega) (by omega) X
          have hone : ∀ l : List Nat, ∀ v ∈ intCells l, v.oneCell' = true := fun l v hv => by
            obtain ⟨k, _, rfl⟩ := List.mem_map.1 hv
            rfl
          have hct2 := ct_le n n.size
          have hR : ∀ X vv, X.ownsRow 0 3 1 sv N (intCells L1) → Vs X vv (ct n n.size) (intCells ((br n n.size).map (a + ·))) → (∀ k, vv.ownBlock = some k → sv.ownBlock ≠ some k) →
              Calls Try.prog 27 #[sv, .int .i64 f, .int .i64 r, vv] X (Rep X sv (f + ct n n.size + (N - r)) (intCells (L1.take f ++ (br n n.size).map (a + ·) ++ L1.drop r))) := fun X vv h1 h2 h3 => by
            have := replace_any X sv vv N f r (ct n n.size) _ _ h1 (hone _) h2 h3 hfr hctr (by omega) (by omega)
            rwa [show (intCells L1).take f ++ intCells ((br n n.size).map (a + ·)) ++ (intCells L1).drop r = intCells (L1.take f ++ (br n n.size).map (a + ·) ++ L1.drop r) from by simp [intCells]] at this
          have HM := Lib.hid hM
          have HR := Lib.hid hR
          have HRO := Lib.hid hrow
          have hsl := fun k hk => own_lt hrow k hk
          have HSL := Lib.hid hsl
          have hlr : xb < wr.heap.size := hxr.lt
          have hler : eb < wr.heap.size := hEr.lt
          obtain ⟨sa, sc, rfl⟩ : ∃ sa sc, sv = .slice sa N sc := by
            rcases hrow.2 with ⟨h, h0⟩ | ⟨g, cap, cur, h, _⟩
            · exact ⟨none, 0, by rw [h, h0]⟩
            · exact ⟨_, _, h⟩
          clear hM hR hrow hsl hone hct2
          go_region_with (first
            | (go_at_call 20; refine (HM.out _).mono ?_; rintro e wm ⟨v, rfl, hown, hbm⟩; have y0 := (hbm.cell (p := ⟨xb, 0, none⟩) hlr).trans x0; have y1 := (hbm.cell (p := ⟨eb, 0, none⟩) hler).trans d0; have y2 := (hbm.cell (p := ⟨eb, 2, none⟩) hler).trans d2; have hxm : Blk wm xb _ _ := (hbm.block xb hlr).trans hxr)
            | (go_at_call 27; refine (HR.out _ _ ?_ ?_ ?_).mono ?_; exact own_frm (Frm.of_below (p := fun _ => False) hbm) (by exact HRO.out) (fun _ _ h => h); exact ⟨row_mono hown (Nat.zero_le _), fun v hv => by obtain ⟨k, _, rfl⟩ := List.mem_map.1 hv; rfl⟩; exact fun k hk h => Nat.lt_irrefl _ (Nat.lt_of_lt_of_le (HSL.out k h) (own_ge hown k hk)); rintro e wz ⟨rv, rfl, hrr, hro, hrF⟩; have hxz := hxm.frm hrF (fun h => hap xb h rfl); have z0 := hxz.cell 0; have zf := hxz.frozen 0; simp at z0; obtain ⟨ra, rc, rfl⟩ := own_form hrr))
          all_goals
            go_wp2_with fail
            go_meet
            case rel =>
              have hFm : Frm (fun k => k = xb ∨ (Value.slice sa N sc).ownBlock = some k) wr wm := ⟨hbm.os, hbm.tape, hbm.output, hbm.size, fun i hi _ => hbm.block i hi⟩
              have hFz : Frm (fun k => k = xb ∨ (Value.slice sa N sc).ownBlock = some k) wm wz := ⟨hrF.os, hrF.tape, hrF.output, hrF.size, fun i hi hp => hrF.block i hi (fun h => hp (.inr h))⟩
              have hsz : wr.heap.size ≤ wm.heap.size := hbm.size
              refine ⟨_, by simpa using hxz.set 0 _, own_frm (Frm.setCell (p := fun k => k = xb) (b := xb) (Frm.refl _ _) 0 (.inl rfl) _) hrr (fun k hk h => ?_), fun k hk => ?_, (hFm.trans hFz (fun _ _ h => h)).setCell (b := xb) 0 (.inl (.inl rfl)) _⟩
              · rcases hro k hk with h2 | h2
                · exact hap k h2 h
                · have h3 : wm.heap.size ≤ k := h2
                  have h' : k = xb := h
                  omega
              · rcases hro k hk with h2 | h2
                · exact .inl h2
                · right
                  have h3 : wm.heap.size ≤ k := h2
                  omega
        case rest =>
          obtain ⟨sv', hxw, hrw, how, hFw⟩ := hcut
          have x1 : wc.cell? ⟨xb, 1, none⟩ = some (.int .i64 (s.size : Int)) := hxw.cell 1
          have xf := hxw.frozen 1
          have q1 : IntKind.i64.wrap ((s.size : Int) + more) = (s.size : Int) + more := IntWalk.i64_in _ (by omega)
          have hdo : ((doB s a d n).size : Int) = (s.size : Int) + more := by
            rw [doB_size hf.1, ← HMO.out]
            have := hf.1
            omega
          have hfin := hxw.set 1 (.int .i64 ((s.size : Int) + more))
          rw [← hdo] at hfin
          have HDO := Lib.hid hdo
          have HFI := Lib.hid hfin
          clear hdo hfin
          go_wp2
          go_ret
          have hszw : w.heap.size ≤ wr.heap.size := Nat.le_trans hbV.size hFr.size
          have hF1 : Frm (fun k => k = xb ∨ sv.ownBlock = some k) w wc :=
            ((Frm.of_below (p := fun k => k = xb ∨ sv.ownBlock = some k) hbV).trans hFr (fun _ _ h => .inr h)).trans hFw (fun _ _ h => h)
          have hF2 := hF1.setCell (b := xb) 1 (.inl (.inl rfl)) (.int .i64 ((s.size : Int) + more))
          have hlist : L1.take f ++ (br n n.size).map (a + ·) ++ L1.drop r = br (doB s a d n) (doB s a d n).size := by
            rw [HB2.out, HBS.out, ← HL1.out]
            have hlt : (bs.take r).length = r := by simp; omega
            rw [List.take_append_of_le_length (by omega), List.take_take, Nat.min_eq_left (by omega), List.drop_left' hlt]
          have hctd : f + ct n n.size + (N - r) = ct (doB s a d n) (doB s a d n).size := by
            have h1 := congrArg List.length hlist
            have h2 := hrw.1
            rw [br_length] at h1
            simp only [intCells, List.length_map] at h2
            omega
          rw [hctd, hlist] at hrw
          refine ⟨rfl, sv', ⟨by rw [← HDO.out]; simpa using HFI.out, own_frm (Frm.setCell (p := fun k => k = xb) (b := xb) (Frm.refl _ _) 1 (.inl rfl) _) hrw (fun k hk h => ?_), fun k hk h => ?_⟩, hF2, fun k hk => ?_⟩
          · rcases how k hk with h2 | h2
            · exact hap k h2 h
            · have h' : k = xb := h
              have := hl
              have := HEB.out
              omega
          · rcases how k hk with h2 | h2
            · exact hap k h2 h
            · have := hl
              have := HEB.out
              omega
          · rcases how k hk with h2 | h2
            · exact .inl h2
            · right; omega
end
end Go.Proofs.Ytiiebholgmhogaa

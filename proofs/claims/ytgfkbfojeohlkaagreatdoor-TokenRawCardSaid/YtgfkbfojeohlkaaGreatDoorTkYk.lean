/- What Leaves of layer 9 (token) returns, of any row of tokens. Condition: texts of at most a million bytes, rows of at most 900,000 tokens. -/
import Derived.Test.YtgfkbfojeohlkaaGreatDoorTkZ
import Derived.Test.YtgfkbfojeohlkaaGreatDoorPtK
import Derived.Deep.RegionHeldLaw
namespace Go.Proofs.YtgfkbfojeohlkaaGreatDoor
open Go.RowKit
set_option linter.unusedVariables false
set_option linter.unusedSectionVars false

theorem infoLf : (Tryz.prog.info? 43).map (fun i => (i.zero, i.size, i.bytes)) = some (some (.agg #[.int .i64 0, .string ⟨#[]⟩, .int .i64 0, .int .i64 0]), 4, 40) := by kernel_rfl
theorem src_f {W : World} {b : Nat} {x : Lf} (h : Blk W b #[.int .i64 x.kind, .string x.text, .int .i64 x.frm, .int .i64 x.en] 43) : Src W (.slice (some ⟨b, 0, none⟩) 1 1) 1 (cellLf x) := by
  refine .inr ⟨_, 0, 1, rfl, h.lt, fun j u hj => ?_⟩
  rw [Nat.zero_add, h.cell j]
  simpa [cellLf] using hj
theorem eq_lf (a c d a' c' d' : Int) (b b' : ByteArray) (w : World) : (Op.equalIn 10000 43 (.agg #[.int .i64 a, .string b, .int .i64 c, .int .i64 d]) (.agg #[.int .i64 a', .string b', .int .i64 c', .int .i64 d'])).run Tryz.prog w = .ok (a == a' && (decide (b = b') && (c == c' && d == d'))) w := by
  have u3 := Tryz.underlying3
  have a3 := Tryz.isAgg3
  have z3 := Tryz.sizeOf3
  have u4 := Tryz.underlying9
  have a4 := Tryz.isAgg9
  have z4 := Tryz.sizeOf9
  have hS : Tryz.prog.underlying 43 = some (.struct (Tryz.prog.fieldsOf 43)) := by kernel_rfl
  rw [show (10000 : Nat) = 9999 + 1 from rfl, run_equalIn_agg w 9999 43 _ _ hS (by kernel_rfl)]
  simp only [Program.fieldsOf, Tryz.underlying43]
  go_simp
  rw [← bs_eqb b b']
  by_cases h1 : a = a' <;> by_cases h2 : b.toList = b'.toList <;> by_cases h3 : c = c' <;> by_cases h4 : d = d' <;> simp [h1, h2, h3, h4]
theorem neq_lf (a c d a' c' d' : Int) (b b' : ByteArray) (w : World) : (binOp .neq 43 (.agg #[.int .i64 a, .string b, .int .i64 c, .int .i64 d]) (.agg #[.int .i64 a', .string b', .int .i64 c', .int .i64 d'])).run Tryz.prog w = .ok (.bool (!(a == a' && (decide (b = b') && (c == c' && d == d'))))) w := by
  rw [run_neq_struct, eq_lf]
  simp [Result.andThen]
theorem neq_lf_same (a c d : Int) (b : ByteArray) (w : World) : (binOp .neq 43 (.agg #[.int .i64 a, .string b, .int .i64 c, .int .i64 d]) (.agg #[.int .i64 a, .string b, .int .i64 c, .int .i64 d])).run Tryz.prog w = .ok (.bool false) w := by
  rw [neq_lf]
  simp
def LvI (s : ByteArray) (l : List Tz) (w : World) (v4 v9 : Value) (wr : World) : Prop :=
  ∃ i : Nat, i ≤ l.length ∧ v9 = .int .i64 (i : Int) ∧ wr.ownsRow w.heap.size 43 4 v4 (lfs s (l.take i)).length (cellsLf (lfs s (l.take i))) ∧ Below w.heap.size w wr
section
variable (w : World) (s : ByteArray) (l : List Tz) (oa : Option Addr) (n c : Nat) (hR : RdZ w oa n l) (hs : s.size ≤ 1000000) (hn : n ≤ 900000)
include hR hs hn
set_option maxRecDepth 100000 in
set_option maxHeartbeats 8000000 in
theorem tleaves_any : Calls Tryz.prog 25 #[.string s, .slice oa n c] w fun e w' => ∃ v, e = .returned v ∧ w'.ownsRow w.heap.size 43 4 v (lfs s l).length (cellsLf (lfs s l)) ∧ Below w.heap.size w w' := by
  have hlen := hR.len
  have HR := Lib.hid hR
  have HLEN := Lib.hid hlen
  have HTX := Lib.hid (fun W t => textZ_any W s t hs)
  have HST := Lib.hid (fun W t => standsZ_any W s t)
  clear hR hlen
  go_enter Tryz.func25, Tryz.ntmps25
  go_wp2
  go_loopw [4, 9] (fun v4 v9 wr => LvI s l w v4 v9 wr) (fun _ v _ => n - (intOf v).toNat)
  case atStart => exact ⟨0, Nat.zero_le _, rfl, World.ownsRow_nil _ _ _ _, Below.refl _ _⟩
  case round =>
    obtain ⟨i, hi, rfl, hown, hBw⟩ := hrel
    obtain ⟨ov, cv, rfl⟩ := own_slice hown
    have HO := Lib.hid hown
    have HBW := Lib.hid hBw
    have hL := lfs_len s (l.take i)
    rw [List.length_take] at hL
    by_cases hlt : i < n
    · have q1 : (i : Int) < (n : Int) := by omega
      have q0 : (0 : Int) ≤ (i : Int) := by omega
      have hxa : l[i]? = some (l[i]'(by have := HLEN.out; omega)) := List.getElem?_eq_getElem _
      generalize l[i]'(by have := HLEN.out; omega) = x at hxa
      have hstep := lfs_take s hxa
      obtain ⟨g1, o1, rfl, h1, c0, c1, c2, c3⟩ := (HR.out.below hBw).cells i x hxa
      have HTZ := Lib.hid (fun W => HTX.out W x)
      have HSZ := Lib.hid (fun W => HST.out W x)
      have hF : lfF s x = if lfK x.kind = true ∧ inZ s x = true then [⟨x.kind, txZ s x, x.frm, x.en⟩] else [] := rfl
      rw [hF] at hstep
      obtain ⟨tk, tf, te, top⟩ := x
      unfold aggZ at HTZ HSZ
      dsimp only at *
      generalize txZ s ⟨tk, tf, te, top⟩ = TX at *
      obtain ⟨z, hz⟩ : ∃ z, (lfs s (l.take i)).length = z := ⟨_, rfl⟩
      rw [hz] at HO hL ⊢
      have HZ := Lib.hid hz
      have HSTEP := Lib.hid hstep
      have hi6 : i + 1 ≤ l.length := by have := HLEN.out; omega
      have HI6 := Lib.hid hi6
      have hol := own_lt HO.out
      have hog := own_ge HO.out
      have HOL := Lib.hid hol
      have HOG := Lib.hid hog
      have kb := Blk.new wr #[.int .i64 tk, .int .i64 tf, .int .i64 te, .bool top] 33
      have hal := (Below.refl wr.heap.size wr).alloc (Nat.le_refl _) (.cells #[.int .i64 tk, .int .i64 tf, .int .i64 te, .bool top] 33)
      have HAL := Lib.hid hal
      clear hown hxa hF hstep hi6 hz hol hog hal
      go_wp2_with fail
      obtain ⟨W1, hW1⟩ : ∃ X, wr.alloc (.cells #[.int .i64 tk, .int .i64 tf, .int .i64 te, .bool top] 33) = X := ⟨_, rfl⟩
      have hz1 : W1.heap.size = wr.heap.size + 1 := by rw [← hW1, World.size_alloc]
      rw [hW1] at kb HAL ⊢
      have ho1 := own_below HO.out HAL.out
      have hB1 := HBW.out.trans (HAL.out.mono HBW.out.size)
      have HO1 := Lib.hid ho1
      have HB1 := Lib.hid hB1
      clear hW1 ho1 hB1 HAL HO HR
      obtain ⟨Bt, hBt⟩ : ∃ z, wr.heap.size = z := ⟨_, rfl⟩
      have HBT := Lib.hid hBt
      rw [hBt] at kb hz1 ⊢
      clear hBt
      have kb0 := kb
      refine (leaf_any W1 tk).mono ?_
      rintro e wl ⟨rfl, rfl⟩
      obtain ⟨K, hK⟩ : ∃ K, lfK tk = K := ⟨_, rfl⟩
      obtain ⟨I, hI⟩ : ∃ I, inZ s ⟨tk, tf, te, top⟩ = I := ⟨_, rfl⟩
      rw [hK] at HSTEP ⊢
      rw [hI] at HSTEP HSZ
      clear hK hI
      have a0 := kb.cell 0
      have a1 := kb.cell 1
      have a2 := kb.cell 2
      have a3 := kb.cell 3
      have HKB := Lib.hid kb
      have same : (K && I) = false → wl.ownsRow w.heap.size 43 4 (.slice ov z cv) (lfs s (l.take (i + 1))).length (cellsLf (lfs s (l.take (i + 1)))) := fun h => by
        have e : ¬ (K = true ∧ I = true) := fun q => by rw [q.1, q.2] at h; cases h
        rw [HSTEP.out, if_neg e, List.append_nil, HZ.out]
        exact HO1.out
      have SAME := Lib.hid same
      clear same kb0 kb
      cases K with
      | false =>
        go_wp2
        go_roundw
        case rel => exact ⟨i + 1, HI6.out, by go_num, SAME.out rfl, HB1.out⟩
        case measure => simp [intOf]; omega
      | true =>
        go_wp2_with fail
        refine (HSZ.out _).mono ?_
        rintro e w3 ⟨rfl, hb3⟩
        cases I with
        | false =>
          have HB3 := Lib.hid hb3
          clear hb3
          go_wp2
          go_roundw
          case rel => exact ⟨i + 1, HI6.out, by go_num, own_below (SAME.out rfl) HB3.out, HB1.out.trans (HB3.out.mono HB1.out.size)⟩
          case measure => simp [intOf]; omega
        | true =>
          have kb3 := HKB.out.below hb3
          have ho3 := own_below HO1.out hb3
          have HO3 := Lib.hid ho3
          have HB3 := Lib.hid (HB1.out.trans (hb3.mono HB1.out.size))
          have HTZ2 := Lib.hid (fun W => (HTZ.out W).mono (fun e w' (h : e = .returned (.string TX) ∧ Below W.heap.size W w') => (⟨_, h.1, rfl, h.2⟩ : ∃ v, e = .returned v ∧ (v = .string TX ∧ Below W.heap.size W w'))))
          have hz3 : Bt + 1 ≤ w3.heap.size := by have := hb3.size; omega
          clear a0 a1 a2 a3 ho3 hb3 HKB
          have a1 := kb3.cell 1
          have a0 := kb3.cell 0
          have a2 := kb3.cell 2
          have a3 := kb3.cell 3
          go_upto_region 5 with fail
          have e0 : w3.drew.cell? ⟨Bt, 0, none⟩ = some (.int .i64 tk) ∧ w3.drew.cell? ⟨Bt, 1, none⟩ = some (.int .i64 tf) ∧ w3.drew.cell? ⟨Bt, 2, none⟩ = some (.int .i64 te) ∧ w3.drew.cell? ⟨Bt, 3, none⟩ = some (.bool top) := ⟨a0, a1, a2, a3⟩
          clear a0 a1 a2 a3
          go_region_held_law (fun w' => w'.cell? ⟨Bt, 0, none⟩ = some (.int .i64 tk) ∧ w'.cell? ⟨Bt, 1, none⟩ = some (.int .i64 tf) ∧ w'.cell? ⟨Bt, 2, none⟩ = some (.int .i64 te) ∧ w'.cell? ⟨Bt, 3, none⟩ = some (.bool top)) (first | exact e0 | exact s4 | exact s4a _ | exact s9) (first
            | (refine step_call (by rfl) Tryz.func22 (by kernel_rfl) (by kernel_rfl) _ _ (by rfl) [.string s, .agg #[.int .i64 tk, .int .i64 tf, .int .i64 te, .bool top]] (by rfl) _ (HTZ2.out _) ?_; intro v w4 hh; obtain ⟨hv4, hb4⟩ := hh; subst hv4; have kb4 := kb3.drew.below hb4; have s4 : w4.cell? ⟨Bt, 0, none⟩ = some (.int .i64 tk) ∧ w4.cell? ⟨Bt, 1, none⟩ = some (.int .i64 tf) ∧ w4.cell? ⟨Bt, 2, none⟩ = some (.int .i64 te) ∧ w4.cell? ⟨Bt, 3, none⟩ = some (.bool top) := ⟨kb4.cell 0, kb4.cell 1, kb4.cell 2, kb4.cell 3⟩; have s4a : ∀ o, (w4.alloc o).cell? ⟨Bt, 0, none⟩ = some (.int .i64 tk) ∧ (w4.alloc o).cell? ⟨Bt, 1, none⟩ = some (.int .i64 tf) ∧ (w4.alloc o).cell? ⟨Bt, 2, none⟩ = some (.int .i64 te) ∧ (w4.alloc o).cell? ⟨Bt, 3, none⟩ = some (.bool top) := fun o => ⟨(kb4.alloc o).cell 0, (kb4.alloc o).cell 1, (kb4.alloc o).cell 2, (kb4.alloc o).cell 3⟩; have ho4 := own_below (own_drew HO3.out) hb4)
            | (refine step_app_gen (by rfl) _ _ 39 43 4 40 _ (by rfl) Tryz.underlying39 infoLf rfl (by omega) (by omega) w.heap.size (.slice ov z cv) z (cellsLf (lfs s (l.take i))) (by rfl) (own_below ho4 ((Below.refl _ _).alloc (Nat.le_refl _) _)) _ 1 (cellLf ⟨tk, TX, tf, te⟩) (by rfl) (src_f (x := ⟨tk, TX, tf, te⟩) (Blk.new w4 _ _)) rfl (cellLf_one _) (by omega) (by rw [World.size_alloc]; have := HB3.out.size; have := hb4.size; have e : w3.drew.heap.size = w3.heap.size := rfl; omega) (z + 1) rfl ?_; intro oa9 c9 w9 hown9 hgr9 hg9; have kb9 := (kb4.alloc (.cells #[.int .i64 tk, .string TX, .int .i64 tf, .int .i64 te] 43)).grown hgr9 (fun e => by have := HBT.out; have := HOL.out _ e.symm; omega); have s9 : w9.cell? ⟨Bt, 0, none⟩ = some (.int .i64 tk) ∧ w9.cell? ⟨Bt, 1, none⟩ = some (.int .i64 tf) ∧ w9.cell? ⟨Bt, 2, none⟩ = some (.int .i64 te) ∧ w9.cell? ⟨Bt, 3, none⟩ = some (.bool top) := ⟨kb9.cell 0, kb9.cell 1, kb9.cell 2, kb9.cell 3⟩))
          all_goals
            have hb34 : Below w.heap.size w w4 := HB3.out.drew.trans (hb4.mono HB3.out.size)
            have hb39 : Below w.heap.size w w9 := (hb34.alloc hb34.size _).grown hgr9 (by rw [World.size_alloc]; have := hb34.size; omega) (fun k hk => HOG.out k hk)
            have hown : w9.ownsRow w.heap.size 43 4 (.slice oa9 (z + 1) c9) (lfs s (l.take (i + 1))).length (cellsLf (lfs s (l.take (i + 1)))) := by
              rw [HSTEP.out, if_pos (by simp), cellsLf_append, List.length_append, HZ.out]
              simpa [cellsLf] using hown9
            have HOWN := Lib.hid hown
            have HB39 := Lib.hid hb39
            clear hown hb39 hb34 s9 kb9 hgr9 hown9 ho4 s4 s4a kb4 hb4 kb3 e0
            go_wp2
            go_roundw
            case rel => exact ⟨i + 1, HI6.out, by go_num, HOWN.out, HB39.out⟩
            case measure => simp [intOf]; omega
    · have q1 : ¬ (i : Int) < (n : Int) := by omega
      have hin : i = l.length := by have := HLEN.out; omega
      subst hin
      rw [List.take_length] at hown
      have HO2 := Lib.hid hown
      clear hown HO hL
      go_wp2
      go_ret
      exact ⟨_, rfl, HO2.out, HBW.out⟩
end
end Go.Proofs.YtgfkbfojeohlkaaGreatDoor

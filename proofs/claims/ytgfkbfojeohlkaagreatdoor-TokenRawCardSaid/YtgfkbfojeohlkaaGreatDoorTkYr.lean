/- What At of layer 9 (token) and the library's IndexFunc return; the statement TokenRaw's walk: the leaves, the bytes and the token at a place, of any row of tokens, are as the document says. Condition: the program's table of operators lies as start-up lays it; the tokens are read as a row. -/
import Derived.Test.YtgfkbfojeohlkaaGreatDoorTkYk
namespace Go.Proofs.YtgfkbfojeohlkaaGreatDoor
open Go.RowKit
set_option linter.unusedVariables false
set_option linter.unusedSectionVars false

def isAt (at' : Int) (t : Tz) : Bool := decide (t.frm ≤ at') && decide (at' < t.en)
def fsZ (l : List Tz) (at' : Int) : Int := match l.findIdx? (isAt at') with
  | some i => (i : Int)
  | none => -1
theorem fsZ_nil (at' : Int) : fsZ [] at' = -1 := rfl
theorem fsZ_ge (l : List Tz) (at' : Int) : -1 ≤ fsZ l at' ∧ fsZ l at' ≤ l.length := by
  unfold fsZ
  cases h : l.findIdx? (isAt at') with
  | none => exact ⟨Int.le_refl _, by show (-1 : Int) ≤ _; omega⟩
  | some i =>
    have := (List.findIdx?_eq_some_iff_getElem.1 h).1
    exact ⟨by show (-1 : Int) ≤ (i : Int); omega, by show (i : Int) ≤ _; omega⟩
theorem fsZ_snoc (l : List Tz) (t : Tz) (at' : Int) : fsZ (l ++ [t]) at' = if fsZ l at' < 0 ∧ isAt at' t = true then (l.length : Int) else fsZ l at' := by
  unfold fsZ
  rw [List.findIdx?_append]
  cases h : l.findIdx? (isAt at') with
  | some i =>
    rw [if_neg (by intro q; have := q.1; have e : ¬ ((i : Int) < 0) := by omega
                   exact e this)]
    rfl
  | none =>
    cases ht : isAt at' t with
    | true => simp [List.findIdx?_cons, ht]
    | false => simp [List.findIdx?_cons, ht]
theorem fsZ_take {l : List Tz} {j : Nat} {t : Tz} (h : l[j]? = some t) (at' : Int) : fsZ (l.take (j + 1)) at' = if fsZ (l.take j) at' < 0 ∧ isAt at' t = true then (j : Int) else fsZ (l.take j) at' := by
  have hl := (List.getElem?_eq_some_iff.1 h).1
  rw [List.take_add_one, h]
  have := fsZ_snoc (l.take j) t at'
  rw [List.length_take, Nat.min_eq_left (by omega)] at this
  exact this
theorem fsZ_hit {l : List Tz} {j : Nat} {t : Tz} (h : l[j]? = some t) {at' : Int} (hb : ∀ (i : Nat) u, i < j → l[i]? = some u → isAt at' u = false) (ht : isAt at' t = true) : fsZ l at' = (j : Int) := by
  have hl := (List.getElem?_eq_some_iff.1 h)
  have e : l.findIdx? (isAt at') = some j := List.findIdx?_eq_some_iff_getElem.2 ⟨hl.1, by rw [hl.2]; exact ht, fun i hi => by rw [hb i _ hi (List.getElem?_eq_getElem _)]; simp⟩
  unfold fsZ
  rw [e]
theorem fsZ_none {l : List Tz} {at' : Int} (hb : ∀ (i : Nat) u, l[i]? = some u → isAt at' u = false) : fsZ l at' = -1 := by
  have e : l.findIdx? (isAt at') = none := List.findIdx?_eq_none_iff.2 fun x hx => by
    obtain ⟨i, hi⟩ := List.mem_iff_getElem?.1 hx
    exact hb i x hi
  unfold fsZ
  rw [e]
theorem lfs_at (s : ByteArray) {l : List Tz} {j : Nat} {t : Tz} (h : l[j]? = some t) (hK : lfK t.kind = true) (hI : inZ s t = true) : (lfs s l)[(lfs s (l.take j)).length]? = some ⟨t.kind, txZ s t, t.frm, t.en⟩ := by
  have hl := (List.getElem?_eq_some_iff.1 h)
  have e : l = l.take j ++ t :: l.drop (j + 1) := by
    have h1 : l.drop j = t :: l.drop (j + 1) := by rw [List.drop_eq_getElem_cons hl.1, hl.2]
    rw [← h1, List.take_append_drop]
  have e2 : lfs s l = lfs s (l.take j) ++ (lfF s t ++ lfs s (l.drop (j + 1))) := by
    conv => lhs; rw [e]
    unfold lfs
    rw [List.flatMap_append, List.flatMap_cons]
  have e3 : lfF s t = [⟨t.kind, txZ s t, t.frm, t.en⟩] := by unfold lfF; rw [if_pos ⟨hK, hI⟩]
  rw [e2, List.getElem?_append_right (Nat.le_refl _), Nat.sub_self, e3]
  rfl
section
variable (w : World)
set_option maxHeartbeats 2000000 in
theorem atf_any (t : Tz) (at' : Int) (b : Nat) (hb : Blk w b #[.int .i64 at'] 3) : Calls Tryz.prog 61 #[aggZ t, .pointer (some ⟨b, 0, none⟩)] w fun e w' => e = .returned (.bool (isAt at' t)) ∧ Below w.heap.size w w' := by
  obtain ⟨tk, tf, te, top⟩ := t
  unfold aggZ isAt
  dsimp only
  have kb := Blk.new w #[.int .i64 tk, .int .i64 tf, .int .i64 te, .bool top] 33
  have a1 := kb.cell 1
  have a2 := kb.cell 2
  have d0 := (hb.alloc (.cells #[.int .i64 tk, .int .i64 tf, .int .i64 te, .bool top] 33)).cell 0
  have hB := (Below.refl w.heap.size w).alloc (Nat.le_refl _) (.cells #[.int .i64 tk, .int .i64 tf, .int .i64 te, .bool top] 33)
  clear hb
  by_cases h1 : tf ≤ at'
  · by_cases h2 : at' < te
    · go_enter Tryz.func61, Tryz.ntmps61
      go_wp2
      go_ret
      exact ⟨by simp [h1, h2], hB⟩
    · go_enter Tryz.func61, Tryz.ntmps61
      go_wp2
      go_ret
      exact ⟨by simp [h2], hB⟩
  · go_enter Tryz.func61, Tryz.ntmps61
    go_wp2
    go_ret
    exact ⟨by simp; omega, hB⟩
end
def IxRl (l : List Tz) (at' : Int) (W : World) (n : Nat) (v : Value) (wr : World) : Prop := ∃ i : Nat, i ≤ n ∧ v = .int .i64 (i : Int) ∧ (∀ (j : Nat) u, j < i → l[j]? = some u → isAt at' u = false) ∧ Below W.heap.size W wr
section
variable (w : World) (l : List Tz) (oa : Option Addr) (n c : Nat) (hR : RdZ w oa n l) (hn : n ≤ 900000) (at' : Int)
include hR hn
set_option maxRecDepth 100000 in
set_option maxHeartbeats 4000000 in
theorem indexZ_any (b : Nat) (hb : Blk w b #[.int .i64 at'] 3) : Calls Tryz.prog 60 #[.slice oa n c, .func (.func 61) #[] #[.pointer (some ⟨b, 0, none⟩)]] w fun e w' => e = .returned (.int .i64 (fsZ l at')) ∧ Below w.heap.size w w' := by
  have hlen := hR.len
  have HR := Lib.hid hR
  have HLEN := Lib.hid hlen
  have HB := Lib.hid hb
  clear hR hlen hb
  go_enter Tryz.func60, Tryz.ntmps60
  go_wp2
  go_loopw [8] (fun v wr => IxRl l at' w n v wr) (fun v _ => n - (intOf v).toNat)
  case atStart => exact ⟨0, Nat.zero_le _, rfl, fun j u hj => by omega, Below.refl _ _⟩
  case round =>
    obtain ⟨i, hi, rfl, hno, hBw⟩ := hrel
    have HBW := Lib.hid hBw
    have HNO := Lib.hid hno
    clear hno
    by_cases hlt : i < n
    · have q1 : (i : Int) < (n : Int) := by omega
      have q0 : (0 : Int) ≤ (i : Int) := by omega
      have hxa : l[i]? = some (l[i]'(by have := HLEN.out; omega)) := List.getElem?_eq_getElem _
      generalize l[i]'(by have := HLEN.out; omega) = x at hxa
      obtain ⟨g1, o1, rfl, h1, c0, c1, c2, c3⟩ := (HR.out.below hBw).cells i x hxa
      have HAT := Lib.hid (fun W hW => atf_any W x at' b (HB.out.below hW))
      obtain ⟨I, hI⟩ : ∃ I, isAt at' x = I := ⟨_, rfl⟩
      rw [hI] at HAT
      have HI := Lib.hid hI
      have HXA := Lib.hid hxa
      have HXX := Lib.hid (show x = x from rfl)
      obtain ⟨tk, tf, te, top⟩ := x
      unfold aggZ at HAT
      dsimp only at *
      clear hxa hI hBw
      go_wp2_with fail
      refine (HAT.out _ HBW.out).mono ?_
      rintro e w1 ⟨rfl, hb1⟩
      have HB1 := Lib.hid (HBW.out.trans (hb1.mono HBW.out.size))
      clear hb1
      cases I with
      | true =>
        go_wp2
        go_ret
        exact ⟨congrArg (fun z => Ending.returned (.int .i64 z)) (fsZ_hit HXA.out HNO.out HI.out).symm, HB1.out⟩
      | false =>
        go_wp2
        go_roundw
        case rel =>
          refine ⟨i + 1, by omega, by go_num, fun j u hj hu => ?_, HB1.out⟩
          rcases Nat.lt_or_ge j i with q | q
          · exact HNO.out j u q hu
          · have e : j = i := by omega
            subst e
            have := HXA.out.symm.trans hu
            injection this with this
            rw [← this]
            exact HI.out
        case measure => simp [intOf]; omega
    · have q1 : ¬ (i : Int) < (n : Int) := by omega
      have hin : i = l.length := by have := HLEN.out; omega
      have HIN := Lib.hid hin
      clear hlt hBw hin
      go_wp2
      go_ret
      exact ⟨congrArg (fun z => Ending.returned (.int .i64 z)) (fsZ_none (fun j u hu => HNO.out j u (by have := (List.getElem?_eq_some_iff.1 hu).1; have := HIN.out; omega) hu)).symm, HBW.out⟩
set_option maxRecDepth 100000 in
set_option maxHeartbeats 4000000 in
theorem atZ_any : Calls Tryz.prog 27 #[.slice oa n c, .int .i64 at'] w fun e w' => e = .returned (.int .i64 (fsZ l at')) ∧ Below w.heap.size w w' := by
  have hB := (Below.refl w.heap.size w).alloc (Nat.le_refl _) (.cells #[.int .i64 at'] 3)
  have HIX := Lib.hid (indexZ_any (w.alloc (.cells #[.int .i64 at'] 3)) l oa n c (hR.below hB) hn at' w.heap.size (Blk.new w _ _))
  have HB := Lib.hid hB
  clear hR hB
  go_enter Tryz.func27, Tryz.ntmps27
  go_wp2_with fail
  refine (HIX.out).mono ?_
  rintro e w1 ⟨rfl, hb1⟩
  go_wp2
  go_ret
  exact ⟨rfl, HB.out.trans (hb1.mono HB.out.size)⟩
end
def RwI (s : ByteArray) (l : List Tz) (at' : Int) (W : World) (v8 v9 v10 : Value) (wr : World) : Prop :=
  ∃ i : Nat, i ≤ l.length ∧ v10 = .int .i64 (i : Int) ∧ v8 = .int .i64 ((lfs s (l.take i)).length : Int) ∧ v9 = .int .i64 (fsZ (l.take i) at') ∧ Below W.heap.size W wr
section
variable (w : World) (hT : Tx w)
include hT
set_option maxRecDepth 100000 in
set_option maxHeartbeats 8000000 in
theorem tokenRaw_in (s : ByteArray) (oa : Option Addr) (n c : Nat) (at' : Int) (l : List Tz) (hR : RdZ w oa n l) (hs : s.size ≤ 100) (hn : n ≤ 40) :
    Calls Tryz.prog 8 #[.string s, .slice oa n c, .int .i64 at'] w fun e w' => e = .returned (.bool true) ∧ Below w.heap.size w w' := by
  have HAW := Lib.hid (awake9_any w hT)
  have i1 : ¬ (100 : Int) < (s.size : Int) := by omega
  have i2 : ¬ (40 : Int) < (n : Int) := by omega
  have HTL := Lib.hid (fun W (h : RdZ W oa n l) => tleaves_any W s l oa n c h (by omega) (by omega))
  have HTX := Lib.hid (fun W t => textZ_any W s t (by omega))
  have HAT := Lib.hid (fun W (h : RdZ W oa n l) => atZ_any W l oa n c h (by omega) at')
  have HLEN := Lib.hid hR.len
  have HR := Lib.hid hR
  have HFT := Lib.hid (fun j t h => @lfs_take s l j t h)
  have HFA := Lib.hid (fun j t h1 h2 h3 => @lfs_at s l j t h1 h2 h3)
  have hF1 := lfs_len s l
  obtain ⟨F, hF⟩ : ∃ F, lfs s l = F := ⟨_, rfl⟩
  obtain ⟨M, hM⟩ : ∃ M, F.length = M := ⟨_, rfl⟩
  have HF := Lib.hid hF
  rw [hF] at HTL HFA hF1
  rw [hM] at HTL hF1
  have hM1 : M ≤ 40 := by have := hR.len; omega
  have HM := Lib.hid hM
  clear hT hR hF hM hF1
  go_enter Tryz.func8, Tryz.ntmps8
  go_wp2_with fail
  refine (HAW.out).mono ?_
  rintro e w1 ⟨rfl, hb1⟩
  go_wp2_with fail
  refine (HTL.out _ (HR.out.below hb1)).mono ?_
  rintro e w3 ⟨v3, rfl, ho3, hb3⟩
  obtain ⟨o5, c5, rfl, hR5⟩ := RdF.of_own HM.out.symm ho3
  have HR5 := Lib.hid hR5
  have HB3 := Lib.hid (hb1.trans (hb3.mono hb1.size))
  have HR3 := Lib.hid (HR.out.below HB3.out)
  clear ho3 hb3 hb1 hR5 HR HTL HAW
  go_wp2
  go_loopw [8, 9, 10] (fun v8 v9 v10 wr => RwI s l at' w3 v8 v9 v10 wr) (fun _ _ v _ => n - (intOf v).toNat)
  case atStart => exact ⟨0, Nat.zero_le _, rfl, rfl, rfl, Below.refl _ _⟩
  case round =>
    obtain ⟨i, hi, rfl, rfl, rfl, hBw⟩ := hrel
    have HBW := Lib.hid hBw
    have hz := lfs_len s (l.take i)
    rw [List.length_take] at hz
    obtain ⟨z, hz0⟩ : ∃ z, (lfs s (l.take i)).length = z := ⟨_, rfl⟩
    rw [hz0] at hz ⊢
    have HZ0 := Lib.hid hz0
    have hzi : z ≤ 40 := by have := HLEN.out; omega
    obtain ⟨f0, hf0⟩ : ∃ f, fsZ (l.take i) at' = f := ⟨_, rfl⟩
    rw [hf0]
    have HF0 := Lib.hid hf0
    clear hz hz0 hf0
    by_cases hlt : i < n
    · have q1 : (i : Int) < (n : Int) := by omega
      have q0 : (0 : Int) ≤ (i : Int) := by omega
      have hxa : l[i]? = some (l[i]'(by have := HLEN.out; omega)) := List.getElem?_eq_getElem _
      generalize l[i]'(by have := HLEN.out; omega) = x at hxa
      have HXA := Lib.hid hxa
      obtain ⟨g1, o1, rfl, h1, b0, b1, b2, b3⟩ := HR3.out.cells i x hxa
      have HTZ := Lib.hid (fun W => HTX.out W x)
      obtain ⟨I, hI⟩ : ∃ I, inZ s x = I := ⟨_, rfl⟩
      obtain ⟨TX, hTX⟩ : ∃ T, txZ s x = T := ⟨_, rfl⟩
      obtain ⟨K, hK⟩ : ∃ K, lfK x.kind = K := ⟨_, rfl⟩
      obtain ⟨A, hA⟩ : ∃ A, isAt at' x = A := ⟨_, rfl⟩
      have hfn := fsZ_take hxa at'
      rw [HF0.out, hA] at hfn
      have hln := HFT.out i x hxa
      have hll : lfK x.kind = true → inZ s x = true → F[z]? = some ⟨x.kind, txZ s x, x.frm, x.en⟩ := fun q1 q2 => by
        have := HFA.out i x hxa q1 q2
        rw [HZ0.out] at this
        exact this
      have hlf : (lfs s (l.take (i + 1))).length = if (I && K) = true then z + 1 else z := by
        rw [hln, List.length_append, HZ0.out]
        unfold lfF
        rw [hI, hK]
        cases I <;> cases K <;> rfl
      rw [hTX] at hll HTZ
      rw [hI, hK] at hll
      have HI := Lib.hid hI
      have HTXE := Lib.hid hTX
      have HK := Lib.hid hK
      have HA := Lib.hid hA
      have HFN := Lib.hid hfn
      have HLL := Lib.hid hll
      have HLF := Lib.hid hlf
      have hi6 : i + 1 ≤ l.length := by have := HLEN.out; omega
      have HI6 := Lib.hid hi6
      obtain ⟨tk, tf, te, top⟩ := x
      unfold aggZ at HTZ
      dsimp only at *
      have hgB : ∀ W, Below w3.heap.size w3 W → W.cell? ⟨g1, o1 + i * 4, none⟩ = some (.int .i64 tk) ∧ W.cell? ⟨g1, o1 + i * 4 + 1, none⟩ = some (.int .i64 tf) ∧ W.cell? ⟨g1, o1 + i * 4 + 2, none⟩ = some (.int .i64 te) ∧ W.cell? ⟨g1, o1 + i * 4 + 3, none⟩ = some (.bool top) := fun W hW => ⟨(hW.cell (p := ⟨g1, _, none⟩) h1).trans b0, (hW.cell (p := ⟨g1, _, none⟩) h1).trans b1, (hW.cell (p := ⟨g1, _, none⟩) h1).trans b2, (hW.cell (p := ⟨g1, _, none⟩) h1).trans b3⟩
      have HGB := Lib.hid hgB
      obtain ⟨c0, c1, c2, c3⟩ := hgB _ hBw
      clear hxa hI hTX hK hA hfn hln hll hlf hi6 hgB b0 b1 b2 b3 hBw
      go_upto_region 11 with fail
      go_cut [11] from 33 to 61 (fun v wx => v = .bool I ∧ Below w3.heap.size w3 wx)
      case first =>
        by_cases h1' : 0 ≤ tf
        · by_cases h2' : tf ≤ te
          · by_cases h3' : te ≤ (s.size : Int)
            · have hII : true = I := by rw [← HI.out]; unfold inZ; simp [h1', h2', h3']
              have HII := Lib.hid hII
              clear hII
              go_quiet (fail)
              go_wp2
              go_meet
              case rel => exact ⟨by (try rw [← HII.out]); (try simp [h1', h2', h3']), below_drewN HBW.out _⟩
            · have hII : false = I := by rw [← HI.out]; unfold inZ; simp [h1', h2', h3']
              have HII := Lib.hid hII
              have d3 : decide (te ≤ (s.size : Int)) = false := decide_eq_false h3'
              clear hII
              go_quiet (fail)
              go_wp2
              go_meet
              case rel => exact ⟨by (try rw [← HII.out]); (try simp [h1', h2', h3']), below_drewN HBW.out _⟩
          · have hII : false = I := by rw [← HI.out]; unfold inZ; simp [h1', h2']
            have HII := Lib.hid hII
            have d3 : decide (tf ≤ te) = false := decide_eq_false h2'
            clear hII
            go_quiet (fail)
            go_wp2
            go_meet
            case rel => exact ⟨by (try rw [← HII.out]); (try simp [h1', h2']), below_drewN HBW.out _⟩
        · have hII : false = I := by rw [← HI.out]; unfold inZ; simp [h1']
          have HII := Lib.hid hII
          have d3 : decide (0 ≤ tf) = false := decide_eq_false h1'
          clear hII
          go_quiet (fail)
          go_wp2
          go_meet
          case rel => exact ⟨by (try rw [← HII.out]); (try simp [h1']), below_drewN HBW.out _⟩
      case rest =>
        obtain ⟨hv, hBA⟩ := hcut
        subst hv
        generalize wc = wA at *
        clear HBW c0 c1 c2 c3
        have HBA := Lib.hid hBA
        obtain ⟨c0, c1, c2, c3⟩ := HGB.out _ hBA
        clear hBA
        go_upto_if 62 with fail
        go_cut [12] from 63 to 74 (fun v wx => v = .string TX ∧ Below w3.heap.size w3 wx)
        case first =>
          cases I with
          | true =>
            have hin := HI.out
            have htx := HTXE.out
            unfold txZ at htx
            rw [if_pos hin] at htx
            unfold inZ at hin
            simp only [Bool.and_eq_true, decide_eq_true_eq] at hin
            obtain ⟨r0, r1, r2⟩ := hin
            dsimp only at htx
            have HTE := Lib.hid htx
            clear htx
            go_wp2
            go_quiet (fail)
            go_wp2
            go_meet
            case rel => exact ⟨by rw [← HTE.out], below_drewN HBA.out _⟩
          | false =>
            have hin := HI.out
            have htx := HTXE.out
            unfold txZ at htx
            rw [if_neg (by rw [hin]; simp)] at htx
            have HTE := Lib.hid htx
            clear htx hin
            go_wp2
            go_meet
            case rel => exact ⟨by rw [← HTE.out], HBA.out⟩
        case rest =>
          obtain ⟨hv, hBB⟩ := hcut
          subst hv
          generalize wc = wB at *
          clear HBA c0 c1 c2 c3
          have HBB := Lib.hid hBB
          obtain ⟨c0, c1, c2, c3⟩ := HGB.out _ hBB
          clear hBB
          go_wp2_with fail
          refine (HTZ.out _).mono ?_
          rintro e w5 ⟨rfl, hb5⟩
          have HB5 := Lib.hid (HBB.out.trans (hb5.mono HBB.out.size))
          clear HBB c0 c1 c2 c3 hb5
          obtain ⟨c0, c1, c2, c3⟩ := HGB.out _ HB5.out
          go_upto_region 17 with fail
          go_cut [102] from 83 to 102 (fun v wx => v = .bool (decide (f0 < 0) && A) ∧ wx = w5)
          case first =>
            have hA := HA.out
            unfold isAt at hA
            dsimp only at hA
            have HAE := Lib.hid hA
            clear hA
            by_cases g0 : f0 < 0
            · by_cases g1' : tf ≤ at'
              · by_cases g2' : at' < te
                · go_wp2
                  go_meet
                  case rel => exact ⟨by rw [← HAE.out]; simp [g0, g1', g2'], by first | rfl | trivial⟩
                · go_wp2
                  go_meet
                  case rel => exact ⟨by rw [← HAE.out]; simp [g0, g1', g2'], by first | rfl | trivial⟩
              · go_wp2
                go_meet
                case rel => exact ⟨by rw [← HAE.out]; simp; omega, by first | rfl | trivial⟩
            · go_wp2
              go_meet
              case rel => exact ⟨by rw [← HAE.out]; simp; omega, by first | rfl | trivial⟩
          case rest =>
            obtain ⟨hv, hw⟩ := hcut
            subst hv
            subst hw
            generalize wc = w5 at *
            obtain ⟨f1, hf1⟩ : ∃ f, fsZ (l.take (i + 1)) at' = f := ⟨_, rfl⟩
            have hfe := HFN.out
            rw [hf1] at hfe
            have HFE := Lib.hid hfe
            have HF1 := Lib.hid hf1
            obtain ⟨Bq, hBq⟩ : ∃ B, (decide (f0 < 0) && A) = B := ⟨_, rfl⟩
            rw [hBq]
            have HBQ := Lib.hid hBq
            clear hfe hf1 hBq
            go_upto_if 102 with fail
            go_cut [9] from 103 to 103 (fun v wx => v = .int .i64 f1 ∧ wx = w5)
            case first =>
              cases Bq with
              | true =>
                have hq := HBQ.out
                simp only [Bool.and_eq_true, decide_eq_true_eq] at hq
                have hfe := HFE.out
                rw [if_pos hq] at hfe
                have HFE2 := Lib.hid hfe
                clear hq hfe
                go_wp2
                go_meet
                case rel => exact ⟨by rw [HFE2.out], by first | rfl | trivial⟩
              | false =>
                have hq := HBQ.out
                have hfe := HFE.out
                rw [if_neg (by intro h; rw [decide_eq_true h.1, h.2] at hq; cases hq)] at hfe
                have HFE2 := Lib.hid hfe
                clear hq hfe
                go_wp2
                go_meet
                case rel => exact ⟨by rw [HFE2.out], by first | rfl | trivial⟩
            case rest =>
              obtain ⟨hv, hw⟩ := hcut
              subst hv
              subst hw
              generalize wc = w5 at *
              obtain ⟨J, hJ⟩ : ∃ J, (I && K) = J := ⟨_, rfl⟩
              have HJ := Lib.hid hJ
              clear hJ
              go_upto_region 20 with fail
              go_cut [125] from 109 to 125 (fun v wx => v = .bool J ∧ wx = w5)
              case first =>
                cases I with
                | false =>
                  have HJE := Lib.hid HJ.out
                  go_wp2
                  go_meet
                  case rel => exact ⟨by rw [← HJE.out]; rfl, by first | rfl | trivial⟩
                | true =>
                  have hKe := HJ.out
                  rw [Bool.true_and, ← HK.out] at hKe
                  unfold lfK at hKe
                  by_cases k2 : tk = 2
                  · subst k2
                    have HKE := Lib.hid hKe
                    clear hKe
                    go_wp2
                    go_meet
                    case rel => exact ⟨by rw [← HKE.out]; rfl, by first | rfl | trivial⟩
                  have t2 : (tk == 2) = false := beq_eq_false_iff_ne.2 k2
                  have d2 : decide (tk = 2) = false := decide_eq_false k2
                  rw [d2] at hKe
                  by_cases k4 : tk = 4
                  · subst k4
                    have HKE := Lib.hid hKe
                    clear hKe d2
                    go_wp2
                    go_meet
                    case rel => exact ⟨by rw [← HKE.out]; rfl, by first | rfl | trivial⟩
                  have t4 : (tk == 4) = false := beq_eq_false_iff_ne.2 k4
                  have d4 : decide (tk = 4) = false := decide_eq_false k4
                  rw [d4] at hKe
                  by_cases k5 : tk = 5
                  · subst k5
                    have HKE := Lib.hid hKe
                    clear hKe d2 d4
                    go_wp2
                    go_meet
                    case rel => exact ⟨by rw [← HKE.out]; rfl, by first | rfl | trivial⟩
                  have t5 : (tk == 5) = false := beq_eq_false_iff_ne.2 k5
                  have d5 : decide (tk = 5) = false := decide_eq_false k5
                  rw [d5] at hKe
                  by_cases k6 : tk = 6
                  · subst k6
                    have HKE := Lib.hid hKe
                    clear hKe d2 d4 d5
                    go_wp2
                    go_meet
                    case rel => exact ⟨by rw [← HKE.out]; rfl, by first | rfl | trivial⟩
                  have t6 : (tk == 6) = false := beq_eq_false_iff_ne.2 k6
                  have d6 : decide (tk = 6) = false := decide_eq_false k6
                  rw [d6] at hKe
                  have HKE := Lib.hid hKe
                  clear hKe d2 d4 d5 d6 k2 k4 k5 k6
                  go_wp2
                  go_meet
                  case rel => exact ⟨by rw [← HKE.out]; rfl, by first | rfl | trivial⟩
              case rest =>
                obtain ⟨hv, hw⟩ := hcut
                subst hv
                subst hw
                generalize wc = w5 at *
                cases J with
                | false =>
                  go_wp2
                  go_roundw
                  case rel => exact ⟨i + 1, HI6.out, by go_num, by rw [HLF.out, if_neg (by rw [HJ.out]; simp)], by rw [HF1.out], HB5.out⟩
                  case measure => simp [intOf]; omega
                | true =>
                  have hj := HJ.out
                  rw [Bool.and_eq_true] at hj
                  have hfz := HLL.out hj.2 hj.1
                  have hzM : z < M := by have := (List.getElem?_eq_some_iff.1 hfz).1; have := HM.out; omega
                  obtain ⟨g2, o2, rfl, h2, d0, d1, d2, d3⟩ := (HR5.out.below HB5.out).cells z _ hfz
                  dsimp only at d0 d1 d2 d3
                  have hneq := neq_lf_same tk tf te TX
                  have p1 : ¬ (M : Int) ≤ (z : Int) := by omega
                  have p2 : (z : Int) < (M : Int) := by omega
                  have p3 : (0 : Int) ≤ (z : Int) := by omega
                  clear hj hfz
                  go_wp2
                  go_quiet (fail)
                  go_wp2
                  go_roundw
                  case rel => exact ⟨i + 1, HI6.out, by go_num, by rw [HLF.out, if_pos (by rw [HJ.out])]; go_num, by rw [HF1.out], below_drewN HB5.out _⟩
                  case measure => simp [intOf]; omega
    · have q1 : ¬ (i : Int) < (n : Int) := by omega
      have hin : i = l.length := by have := HLEN.out; omega
      have hzM : z = M := by rw [← HZ0.out, hin, List.take_length, HF.out]; exact HM.out
      have hff : f0 = fsZ l at' := by rw [← HF0.out, hin, List.take_length]
      subst hzM
      have HFF := Lib.hid hff
      have hat := HAT.out wr (HR3.out.below hBw)
      rw [← hff] at hat
      have HAT2 := Lib.hid hat
      clear hin hff hat hBw hi
      go_wp2_with fail
      refine (HAT2.out).mono ?_
      rintro e w6 ⟨rfl, hb6⟩
      go_wp2
      go_ret
      exact ⟨by simp, (HB3.out.trans (HBW.out.mono HB3.out.size)).trans (hb6.mono (Nat.le_trans HB3.out.size HBW.out.size))⟩
set_option maxRecDepth 100000 in
set_option maxHeartbeats 4000000 in
theorem tokenRaw_law (s : ByteArray) (oa : Option Addr) (n c : Nat) (at' : Int) (hz : s.size ≤ 9223372036854775807) (hr : ∃ l, RdZ w oa n l) :
    Calls Tryz.prog 8 #[.string s, .slice oa n c, .int .i64 at'] w fun e w' => e = .returned (.bool true) ∧ Below w.heap.size w w' := by
  by_cases h1 : s.size ≤ 100
  · by_cases h2 : n ≤ 40
    · obtain ⟨l, hl⟩ := hr
      exact tokenRaw_in w hT s oa n c at' l hl h1 h2
    · have HAW := Lib.hid (awake9_any w hT)
      have i1 : ¬ (100 : Int) < (s.size : Int) := by omega
      have i2 : (40 : Int) < (n : Int) := by omega
      clear hT hr
      go_enter Tryz.func8, Tryz.ntmps8
      go_wp2_with fail
      refine (HAW.out).mono ?_
      rintro e w1 ⟨rfl, hb1⟩
      go_wp2
      go_ret
      exact ⟨rfl, hb1⟩
  · have HAW := Lib.hid (awake9_any w hT)
    have i1 : (100 : Int) < (s.size : Int) := by omega
    clear hT hr
    go_enter Tryz.func8, Tryz.ntmps8
    go_wp2_with fail
    refine (HAW.out).mono ?_
    rintro e w1 ⟨rfl, hb1⟩
    go_wp2
    go_ret
    exact ⟨rfl, hb1⟩
end
end Go.Proofs.YtgfkbfojeohlkaaGreatDoor

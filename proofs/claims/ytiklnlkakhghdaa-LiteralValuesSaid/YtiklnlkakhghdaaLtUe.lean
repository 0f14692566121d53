/- What the document's own Expands and Pattern of layer 8 (literal) return. Condition: texts of at most 60,000 bytes. -/
import Derived.Test.YtiklnlkakhghdaaLtU
namespace Go.Proofs.Ytiklnlkakhghdaa
open Go.RowKit
set_option linter.unusedVariables false

def ExRl8 (L : List Pc) (n : Nat) (w : World) (v4 : Value) (wr : World) : Prop := ∃ i : Nat, i ≤ n ∧ v4 = .int .i64 (i : Int) ∧ (L.take i).any (fun x => x.ex) = false ∧ wr = w
section
variable (w : World)
set_option maxHeartbeats 4000000 in
theorem refexpands8_any (s : ByteArray) (hs : s.size ≤ 60000) :
    Calls Try.prog 13 #[.string s] w fun e w' => e = .returned (.bool ((PCs s).any (fun x => x.ex))) ∧ Below w.heap.size w w' := by
  have hcap := PCs_len s hs
  have hps := refpieces_any w s hs
  obtain ⟨L, hL⟩ : ∃ L, PCs s = L := ⟨_, rfl⟩
  rw [hL] at hps hcap ⊢
  have HPS := Lib.hid hps
  clear hps hL
  go_enter Try.func13, Try.ntmps13
  go_wp2_with fail
  refine (HPS.out).mono ?_
  rintro e w1 ⟨v, rfl, hP, hB⟩
  obtain ⟨oa, n, oc, rfl, hRd⟩ := hP.read
  have HRd := Lib.hid hRd
  have hnl : n ≤ 120001 := by have := hRd.len; omega
  clear hP hRd
  go_wp2
  go_loopw [4] (fun v4 wr => ExRl8 L n w1 v4 wr) (fun v _ => n - (intOf v).toNat)
  case atStart => exact ⟨0, Nat.zero_le _, rfl, by simp, rfl⟩
  case round =>
    obtain ⟨i, hi, rfl, ha, rfl⟩ := hrel
    have HAn := Lib.hid ha
    clear ha
    by_cases hlt : (i : Int) < (n : Int)
    · have hlt' : i < n := by omega
      have q0 : (0 : Int) ≤ (i : Int) := by omega
      obtain ⟨ob, p, rfl, hp, _, a0, a1, a2⟩ := HRd.out.get hlt'
      have HSU := Lib.hid (take_next hp)
      have HP := Lib.hid hp
      obtain ⟨x, hx⟩ : ∃ x, p.ex = x := ⟨_, rfl⟩
      have HX := Lib.hid hx
      rw [hx] at a0
      clear hp hx
      cases x with
      | true =>
        go_wp2
        go_ret
        refine ⟨ret_bool ?_, hB⟩
        symm
        rw [List.any_eq_true]
        exact ⟨_, List.mem_of_getElem? HP.out, HX.out⟩
      | false =>
        go_wp2
        go_roundw
        case rel =>
          refine ⟨i + 1, by omega, by go_num, ?_, rfl⟩
          rw [HSU.out, List.any_append, HAn.out]
          simp [HX.out]
        case measure => simp [intOf]; omega
    · obtain rfl : i = n := by omega
      have hall : L.take i = L := List.take_of_length_le (by rw [HRd.out.len]; exact Nat.le_refl _)
      have HALL := Lib.hid hall
      clear hall
      go_wp2
      go_ret
      refine ⟨ret_bool ?_, hB⟩
      have h1 := HAn.out
      rw [HALL.out] at h1
      exact h1.symm
/-- A piece as a pattern, up to its k-th byte. -/
def shK (x : Pc) (k : Nat) : ByteArray := if x.q = false then x.t.extract 0 k else ⟨(shT (x.t.data.toList.take k)).toArray⟩
theorem shK_zero (x : Pc) : shK x 0 = ByteArray.empty := by
  unfold shK
  split
  · have h1 : (x.t.extract 0 0).size = 0 := by simp
    exact ByteArray.ext (Array.eq_empty_of_size_eq_zero h1)
  · rfl
theorem shK_all (x : Pc) : shK x x.t.size = shP x := by
  unfold shK shP
  rw [ByteArray.extract_zero_size, List.take_of_length_le (by simp)]
theorem shK_size (x : Pc) {k : Nat} (hk : k ≤ x.t.size) : (shK x k).size ≤ 2 * k := by
  unfold shK
  split
  · rw [ext_size hk]; omega
  · show (shT (x.t.data.toList.take k)).toArray.size ≤ 2 * k
    have := shT_len (x.t.data.toList.take k)
    unfold Lib.byteCells at this
    rw [List.length_map, List.length_take] at this
    rw [List.size_toArray, this]
    omega
theorem shK_succ_plain {x : Pc} (hq : x.q = false) {k : Nat} (hk : k < x.t.size) : shK x (k + 1) = shK x k ++ x.t.extract k (k + 1) := by
  unfold shK
  rw [if_pos hq, if_pos hq, ByteArray.extract_append_extract, Nat.min_eq_left (by omega), Nat.max_eq_right (by omega)]
theorem shK_succ_quoted {x : Pc} (hq : x.q = true) {k : Nat} (hk : k < x.t.size) : shK x (k + 1) = (shK x k ++ ⟨#[92]⟩) ++ x.t.extract k (k + 1) := by
  unfold shK
  rw [if_neg (by rw [hq]; decide), if_neg (by rw [hq]; decide)]
  have hl : k < x.t.data.toList.length := by simpa using hk
  apply ByteArray.ext
  have e1 : (x.t.extract k (k + 1)).data.toList = [x.t.data.toList[k]] := by
    rw [ByteArray.data_extract, Array.toList_extract]
    simp
    rw [List.drop_eq_getElem_cons hl]
    simp
  apply Array.ext'
  rw [ByteArray.data_append, ByteArray.data_append, Array.toList_append, Array.toList_append, e1]
  show (shT (x.t.data.toList.take (k + 1))).toArray.toList = (shT (x.t.data.toList.take k)).toArray.toList ++ [92] ++ _
  rw [List.take_succ_eq_append_getElem hl]
  unfold shT
  rw [List.flatMap_append]
  simp
theorem catW_take_le (L : List Pc) (i : Nat) : (catW shP (L.take i)).size ≤ 2 * (bareL L).size := by
  have h1 := catW_size (L.take i)
  have h2 := bareL_take_le L i
  omega
def PaRl (L : List Pc) (n : Nat) (w : World) (v4 v5 : Value) (wr : World) : Prop := ∃ i : Nat, i ≤ n ∧ v5 = .int .i64 (i : Int) ∧ v4 = .string (catW shP (L.take i)) ∧ wr = w
def PaRk (x : Pc) (X : ByteArray) (w : World) (v4 v6 : Value) (wr : World) : Prop := ∃ k : Nat, k ≤ x.t.size ∧ v6 = .int .i64 (k : Int) ∧ v4 = .string (X ++ shK x k) ∧ wr = w
set_option maxHeartbeats 8000000 in
theorem refpattern8_any (s : ByteArray) (hs : s.size ≤ 60000) :
    Calls Try.prog 14 #[.string s] w fun e w' => e = .returned (.string (catW shP (PCs s))) ∧ Below w.heap.size w w' := by
  have htot := PCs_tot s
  have hcap := PCs_len s hs
  have hps := refpieces_any w s hs
  obtain ⟨L, hL⟩ : ∃ L, PCs s = L := ⟨_, rfl⟩
  rw [hL] at hps hcap htot ⊢
  have HPS := Lib.hid hps
  clear hps hL
  go_enter Try.func14, Try.ntmps14
  go_wp2_with fail
  refine (HPS.out).mono ?_
  rintro e w1 ⟨v, rfl, hP, hB⟩
  obtain ⟨oa, n, oc, rfl, hRd⟩ := hP.read
  have HRd := Lib.hid hRd
  have HTOT := Lib.hid htot
  have hnl : n ≤ 120001 := by have := hRd.len; omega
  clear hP hRd htot
  go_wp2
  go_loopw [4, 5] (fun v4 v5 wr => PaRl L n w1 v4 v5 wr) (fun _ v _ => n - (intOf v).toNat)
  case atStart => exact ⟨0, Nat.zero_le _, rfl, rfl, rfl⟩
  case round =>
    obtain ⟨i, hi, rfl, rfl, rfl⟩ := hrel
    by_cases hlt : (i : Int) < (n : Int)
    · have hlt' : i < n := by omega
      have q0 : (0 : Int) ≤ (i : Int) := by omega
      obtain ⟨ob, p, rfl, hp, _, a0, a1, a2⟩ := HRd.out.get hlt'
      have hsu := take_next hp
      have hXz := catW_take_le L i
      have htl := bareL_take_le L (i + 1)
      rw [hsu, bareL_append, bareL_one, ByteArray.size_append] at htl
      obtain ⟨X, hX⟩ : ∃ X, catW shP (L.take i) = X := ⟨_, rfl⟩
      have hsu2 : catW shP (L.take (i + 1)) = X ++ shP p := by
        rw [hsu, catW_append, hX]
        show X ++ (shP p ++ ByteArray.empty) = _
        rw [ByteArray.append_empty]
      rw [hX] at hXz ⊢
      have hXl : X.size ≤ 120000 := by have := HTOT.out; omega
      have hpz : p.t.size ≤ 60000 := by have := HTOT.out; omega
      have HSU := Lib.hid hsu2
      have hst : X = X ++ shK p 0 := by rw [shK_zero, ByteArray.append_empty]
      have HST := Lib.hid hst
      clear hsu hXz htl hX hp hsu2 hst
      go_wp2
      go_loopw [4, 6] (fun v4 v6 wx => PaRk p X wr v4 v6 wx) (fun _ v _ => p.t.size - (intOf v).toNat)
      case atStart => exact ⟨0, Nat.zero_le _, rfl, by rw [← HST.out], rfl⟩
      case round =>
        obtain ⟨k, hk, rfl, rfl, rfl⟩ := hrel
        by_cases hlk : (k : Int) < (p.t.size : Int)
        · have hlk' : k < p.t.size := by omega
          have k0 : (0 : Int) ≤ (k : Int) := by omega
          have k1 : (k : Int) + 1 ≤ (p.t.size : Int) := by omega
          have k2 : IntKind.i64.wrap ((k : Int) + 1) = (k : Int) + 1 := IntWalk.i64_in _ (by omega)
          have k3 : (k : Int) ≤ (k : Int) + 1 := by omega
          have hsz := shK_size p hk
          have hTz := ext_size (s := p.t) (a := k) (b := k + 1) (by omega)
          have hz1 := ByteArray.size_append (a := X) (b := shK p k)
          obtain ⟨T, hT⟩ : ∃ T, p.t.extract k (k + 1) = T := ⟨_, rfl⟩
          rw [hT] at hTz
          obtain ⟨Y, hY⟩ : ∃ Y, X ++ shK p k = Y := ⟨_, rfl⟩
          rw [hY] at hz1 ⊢
          have hYz : Y.size ≤ 240000 := by omega
          have hTz1 : T.size = 1 := by omega
          cases hq : p.q with
          | false =>
            have hnx := shK_succ_plain hq hlk'
            rw [hT] at hnx
            have hnx2 : X ++ shK p (k + 1) = Y ++ T := by rw [hnx, ← ByteArray.append_assoc, hY]
            have HN := Lib.hid hnx2
            rw [hq] at a1
            obtain ⟨Z, hZ⟩ : ∃ Z, Y ++ T = Z := ⟨_, rfl⟩
            have hZz : Z.size ≤ 240001 := by rw [← hZ, ByteArray.size_append]; omega
            have hsum : Y.size + T.size ≤ 240001 := by omega
            clear hnx hnx2 hz1 hY hsz hTz hq
            go_wp2
            go_roundw
            case rel => exact ⟨k + 1, by omega, by go_num, by rw [HN.out, hZ], rfl⟩
            case measure => simp [intOf]; omega
          | true =>
            have hnx := shK_succ_quoted hq hlk'
            rw [hT] at hnx
            obtain ⟨V, hV⟩ : ∃ V, Y ++ (⟨#[92]⟩ : ByteArray) = V := ⟨_, rfl⟩
            have hnx2 : X ++ shK p (k + 1) = V ++ T := by rw [hnx, ← ByteArray.append_assoc, ← ByteArray.append_assoc, hY, hV]
            have HN := Lib.hid hnx2
            rw [hq] at a1
            have hVz : V.size ≤ 240001 := by rw [← hV, ByteArray.size_append]; show Y.size + 1 ≤ _; omega
            obtain ⟨Z, hZ⟩ : ∃ Z, V ++ T = Z := ⟨_, rfl⟩
            have hZz : Z.size ≤ 240002 := by rw [← hZ, ByteArray.size_append]; omega
            have hsum : V.size + T.size ≤ 240002 := by omega
            clear hnx hnx2 hz1 hY hsz hTz hq
            go_wp2
            go_roundw
            case rel => exact ⟨k + 1, by omega, by go_num, by rw [HN.out, hZ], rfl⟩
            case measure => simp [intOf]; omega
        · obtain rfl : k = p.t.size := by omega
          have hall := shK_all p
          have HSH := Lib.hid hall
          clear hall
          go_wp2
          go_roundw
          case rel => exact ⟨i + 1, by omega, by go_num, by rw [HSU.out, ← HSH.out], rfl⟩
          case measure => simp [intOf]; omega
    · obtain rfl : i = n := by omega
      have hall : L.take i = L := List.take_of_length_le (by rw [HRd.out.len]; exact Nat.le_refl _)
      rw [hall]
      clear hall
      go_wp2
      go_ret
      exact ⟨rfl, hB⟩
end
end Go.Proofs.Ytiklnlkakhghdaa

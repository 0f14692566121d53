/- What the statements' own awake and right of layer 3 (lines) return: true, and 0. Condition: texts of at most a million bytes; the index at hand lies in memory as such. -/
import Derived.Test.YtiiebholgmhogaaLnF
namespace Go.Proofs.Ytiiebholgmhogaa
open Go.RowKit Go.Shelf
set_option linter.unusedVariables false

/-- A row of strings of the call's own, as it is read. -/
theorem strs_at {w : World} {base g n c : Nat} {zs : List ByteArray} (h : w.ownsRow base 9 1 (.slice (some ⟨g, 0, none⟩) n c) n (strCells zs)) (hn : zs.length = n) : ∀ j, j < n → w.cell? ⟨g, j, none⟩ = some (.string (zs[j]?.getD ⟨#[]⟩)) := by
  intro j hj
  have hc := h.cells (g := g) rfl j (.string (zs[j]?.getD ⟨#[]⟩)) (by
    have hl : j < zs.length := by omega
    simp [strCells, hl])
  have e : (⟨g, 0, none⟩ : Addr).add j = ⟨g, 0 + j, none⟩ := by unfold Addr.add; split <;> simp_all
  rw [e, Nat.zero_add] at hc
  exact hc
theorem str_blk {w : World} {base g n c : Nat} {xs : List Value} (h : w.ownsRow base 9 1 (.slice (some ⟨g, 0, none⟩) n c) n xs) : g < w.heap.size ∧ base ≤ g := ⟨own_lt h g rfl, own_ge h g rfl⟩

set_option maxHeartbeats 1000000 in
theorem awake_any (w : World) :
    Calls Try.prog 6 #[] w fun e w' => e = .returned (.bool true) ∧ Below w.heap.size w w' := by
  have hn := new_any ⟨#[97, 10, 98]⟩ (by decide) w
  have HN := Lib.hid hn
  clear hn
  go_enter Try.func6, Try.ntmps6
  go_wp2_with fail
  refine HN.out.mono ?_
  rintro e w1 ⟨xb, sv, rfl, hI, _, _, hb⟩
  have hw : Calls Try.prog 13 #[.pointer (some ⟨xb, 0, none⟩), .int .i64 2] w1 fun e w' => e = .returned (.tuple #[.int .i64 1, .int .i64 0, .int .i64 0]) ∧ Drew w1 w' := where_any ⟨#[97, 10, 98]⟩ xb sv w1 (by decide) hI 2
  have HW := Lib.hid hw
  clear hw
  go_wp2_with fail
  refine HW.out.mono ?_
  rintro e w2 ⟨rfl, hd⟩
  have hc : Calls Try.prog 19 #[.pointer (some ⟨xb, 0, none⟩)] w2 fun e w' => e = .returned (.int .i64 2) ∧ w' = w2 := count_any ⟨#[97, 10, 98]⟩ xb sv w2 (by decide) (hI.drew hd)
  go_wp2_with fail
  refine hc.mono ?_
  rintro e w3 ⟨rfl, rfl⟩
  go_wp2
  go_ret
  exact ⟨rfl, hb.trans hd.below⟩

set_option maxRecDepth 100000 in
set_option maxHeartbeats 2000000 in
theorem right_any (s : ByteArray) (xb : Nat) (sv : Value) (w : World) (hs : s.size ≤ 1000000) (hI : Ix w xb sv s) :
    Calls Try.prog 8 #[.pointer (some ⟨xb, 0, none⟩), .string s] w fun e w' => e = .returned (.int .i64 0) ∧ Below w.heap.size w w' := by
  have hct := ct_le s s.size
  have hll := lns_length s
  have hcn : ∀ w', Below w.heap.size w w' → Calls Try.prog 19 #[.pointer (some ⟨xb, 0, none⟩)] w' fun e w'' => e = .returned (.int .i64 (ct s s.size + 1 : Nat)) ∧ w'' = w' := fun w' hb => count_any s xb sv w' hs (hI.below hb)
  have hli := reflines_any s w hs
  have hat : ∀ (g c : Nat) (w1 : World), w1.ownsRow w.heap.size 9 1 (.slice (some ⟨g, 0, none⟩) (ct s s.size + 1) c) (ct s s.size + 1) (strCells (lns s)) → ∀ j, j < ct s s.size + 1 → w1.cell? ⟨g, j, none⟩ = some (.string ((lns s)[j]?.getD ⟨#[]⟩)) := fun _ _ _ h => strs_at h hll
  have hsp : ∀ k w', Below w.heap.size w w' → k ≤ ct s s.size → Calls Try.prog 11 #[.pointer (some ⟨xb, 0, none⟩), .int .i64 (k : Nat)] w' fun e w'' => e = .returned (.tuple #[.int .i64 (headL (br s s.size) k : Nat), .int .i64 (endL (br s s.size) s.size k : Nat), .int .i64 0]) ∧ Drew w' w'' := fun k w' hb hk => span_good s xb sv w' hs (hI.below hb) k hk
  have hfi : ∀ k w', k ≤ ct s s.size → Calls Try.prog 14 #[.string s, .int .i64 (k : Nat)] w' fun e w'' => e = .returned (.int .i64 (headL (br s s.size) k : Nat)) ∧ w'' = w' := fun k w' hk => first_any s k w' hs hk
  have hsum : ∀ k, k ≤ ct s s.size → headL (br s s.size) k + ((lns s)[k]?.getD ⟨#[]⟩).size = endL (br s s.size) s.size k ∧ endL (br s s.size) s.size k ≤ s.size := fun k hk => by
    have h1 := lns_size s hk
    have h2 := head_end s hk
    omega
  have hwh : ∀ k w', Below w.heap.size w w' → k ≤ s.size → Calls Try.prog 13 #[.pointer (some ⟨xb, 0, none⟩), .int .i64 (k : Nat)] w' fun e w'' => e = .returned (.tuple #[.int .i64 (ct s k : Nat), .int .i64 (k - hd s k : Nat), .int .i64 0]) ∧ Drew w' w'' := fun k w' hb hk => by
    have := where_any s xb sv w' hs (hI.below hb) k
    unfold whereV at this
    rw [if_pos (by omega)] at this
    simpa using this
  have hrw : ∀ k w', k ≤ s.size → Calls Try.prog 21 #[.string s, .int .i64 (k : Nat)] w' fun e w'' => e = .returned (.tuple #[.int .i64 (ct s k : Nat), .int .i64 (k - hd s k : Nat)]) ∧ w'' = w' := fun k w' hk => refwhere_any s k w' hs hk
  obtain ⟨n, hn⟩ : ∃ n, ct s s.size = n := ⟨_, rfl⟩
  rw [hn] at hct hll hcn hli hat hsp hfi hsum
  have HLL := Lib.hid hll
  have HN := Lib.hid hn
  have HCN := Lib.hid hcn
  have HLI := Lib.hid hli
  have HSP := Lib.hid hsp
  have HFI := Lib.hid hfi
  have HSU := Lib.hid hsum
  have HWH := Lib.hid hwh
  have HRW := Lib.hid hrw
  have HAT := Lib.hid hat
  clear hll hn hcn hli hsp hfi hsum hwh hrw hat
  go_enter Try.func8, Try.ntmps8
  go_wp2_with fail
  refine HLI.out.mono ?_
  rintro e w1 ⟨v, rfl, hown, hb⟩
  obtain ⟨g, c, rfl⟩ := ownsRow_succ hown
  have hg := str_blk hown
  have hcell := HAT.out _ _ _ hown
  have HCE := Lib.hid hcell
  have hgl := hg.1
  clear hcell hg
  go_wp2_with fail
  refine (HCN.out _ hb).mono ?_
  rintro e w2 ⟨rfl, rfl⟩
  go_wp2
  go_loopw [6] (fun v6 wr => ∃ k : Nat, k ≤ n + 1 ∧ v6 = .int .i64 k ∧ Below w2.heap.size w2 wr) (fun v6 _ => n + 1 - (intOf v6).toNat)
  case atStart => exact ⟨0, Nat.zero_le _, rfl, Below.refl _ _⟩
  case round =>
    obtain ⟨k, hk, rfl, hB⟩ := hrel
    have hB2 : Below w.heap.size w wr := hb.trans (hB.mono hb.size)
    by_cases hlt : (k : Int) < (n : Int) + 1
    · have hkn : k ≤ n := by omega
      have hsm := HSU.out k hkn
      have hspk := fun w' hb => HSP.out k w' hb hkn
      have hfik := fun w' => HFI.out k w' hkn
      have hck := (hB.cell (p := ⟨g, k, none⟩) hgl).trans (HCE.out k (by omega))
      obtain ⟨x, hx⟩ : ∃ x, (lns s)[k]?.getD ⟨#[]⟩ = x := ⟨_, rfl⟩
      obtain ⟨h, hh⟩ : ∃ h, headL (br s s.size) k = h := ⟨_, rfl⟩
      obtain ⟨t, ht⟩ : ∃ t, endL (br s s.size) s.size k = t := ⟨_, rfl⟩
      rw [hx] at hsm hck
      rw [hh] at hsm hspk hfik
      rw [ht] at hsm hspk
      have q1 : IntKind.i64.wrap ((h : Int) + (x.size : Int)) = (t : Int) := by rw [IntWalk.i64_in] <;> omega
      have HSK := Lib.hid hspk
      have HFK := Lib.hid hfik
      clear hspk hfik hsm hx hh ht
      go_wp2_with fail
      refine (HSK.out _ hB2).mono ?_
      rintro e w3 ⟨rfl, hd3⟩
      have hck3 := ((hd3.below (n := wr.heap.size)).cell (p := ⟨g, k, none⟩) (Nat.lt_of_lt_of_le hgl hB.size)).trans hck
      go_wp2_with fail
      refine (HFK.out _).mono ?_
      rintro e w4 ⟨rfl, rfl⟩
      go_wp2
      go_roundw
      case rel => exact ⟨k + 1, by omega, by go_num, hB.trans hd3.below⟩
      case measure => simp [intOf]; omega
    · go_wp2
      go_loopw [10] (fun v10 wq => ∃ k : Nat, k ≤ s.size + 1 ∧ v10 = .int .i64 k ∧ Below w2.heap.size w2 wq) (fun v10 _ => s.size + 1 - (intOf v10).toNat)
      case atStart => exact ⟨0, Nat.zero_le _, rfl, hB⟩
      case round =>
        obtain ⟨m, hm, rfl, hBq⟩ := hrel
        clear hB2
        have hB2 : Below w.heap.size w wr := hb.trans (hBq.mono hb.size)
        by_cases hmt : (m : Int) ≤ s.size
        · have hms : m ≤ s.size := by omega
          have hwk := fun w' hb => HWH.out m w' hb hms
          have hrk := fun w' => HRW.out m w' hms
          obtain ⟨a, ha⟩ : ∃ a, ct s m = a := ⟨_, rfl⟩
          obtain ⟨b, hb⟩ : ∃ b, m - hd s m = b := ⟨_, rfl⟩
          rw [ha, hb] at hwk hrk
          have HWK := Lib.hid hwk
          have HRK := Lib.hid hrk
          clear hwk hrk ha hb
          go_wp2_with fail
          refine (HWK.out _ hB2).mono ?_
          rintro e w3 ⟨rfl, hd3⟩
          go_wp2_with fail
          refine (HRK.out _).mono ?_
          rintro e w4 ⟨rfl, rfl⟩
          go_wp2
          go_roundw
          case rel => exact ⟨m + 1, by omega, by go_num, hBq.trans hd3.below⟩
          case measure => simp [intOf]; omega
        · go_wp2
          go_ret
          exact ⟨rfl, hB2⟩
end Go.Proofs.Ytiiebholgmhogaa

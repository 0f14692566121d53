/- What Write of layer 5 (oper) returns: the operators' texts one behind the other, a space between two that aren't tight. Condition: at most thirty numbers, which lie in memory; the program's table lies as start-up lays it. -/
import Derived.Test.YtlfmpjneopeadaaDoorOpL
namespace Go.Proofs.YtlfmpjneopeadaaDoor
open Go.RowKit
set_option linter.unusedVariables false

/-- So many whole numbers lie in a row. -/
def RowZ (w : World) (ao : Option Addr) (len : Nat) (av : Nat → Int) : Prop :=
  ∀ i, i < len → ∃ b off, ao = some ⟨b, off, none⟩ ∧ b < w.heap.size ∧ w.cell? ⟨b, off + i, none⟩ = some (.int .i64 (av i))
theorem RowZ.below {w w' : World} {ao : Option Addr} {len : Nat} {av : Nat → Int} (h : RowZ w ao len av) (hb : Below w.heap.size w w') : RowZ w' ao len av := fun i hi => by
  obtain ⟨b, off, h1, h2, h3⟩ := h i hi
  exact ⟨b, off, h1, Nat.lt_of_lt_of_le h2 hb.size, (hb.cell (p := ⟨b, off + i, none⟩) h2).trans h3⟩

/-- The first numbers, as operators. -/
def nsA (av : Nat → Int) (i : Nat) : List Nat := (List.range i).map fun j => (av j).toNat
theorem nsA_succ (av : Nat → Int) (i : Nat) : nsA av (i + 1) = nsA av i ++ [(av i).toNat] := by unfold nsA; rw [List.range_succ]; simp
theorem nsA_length (av : Nat → Int) (i : Nat) : (nsA av i).length = i := by simp [nsA]
/-- What is written of them. -/
def wrA (av : Nat → Int) (i : Nat) : ByteArray := wrF none (nsA av i)
theorem wrA_zero (av : Nat → Int) : wrA av 0 = ⟨#[]⟩ := rfl
theorem wrA_one (av : Nat → Int) : wrA av 1 = txt (av 0).toNat := by
  unfold wrA
  rw [nsA_succ, wrF_snoc]
  show wrF none [] ++ sepB none _ ++ _ = _
  unfold wrF sepB
  rw [none_app, none_app]
theorem wrA_next (av : Nat → Int) (j : Nat) : wrA av (j + 2) = wrA av (j + 1) ++ (if tightN (av j).toNat (av (j + 1)).toNat = true then ⟨#[]⟩ else ⟨#[32]⟩) ++ txt (av (j + 1)).toNat := by
  unfold wrA
  rw [nsA_succ av (j + 1), wrF_snoc]
  congr 1
  rw [nsA_succ av j, lastOr_snoc]
  rfl
theorem wrA_size (av : Nat → Int) (i : Nat) : (wrA av i).size ≤ 4 * i := by
  have := wr_size (nsA av i) none
  rwa [nsA_length] at this
theorem strCells_append (a b : ByteArray) : Lib.strCells (a ++ b) = Lib.strCells a ++ Lib.strCells b := by
  unfold Lib.strCells
  rw [show (a ++ b).data.toList = a.data.toList ++ b.data.toList by simp, List.map_append]

/-- All of them are operators. -/
def AllOps (av : Nat → Int) (len : Nat) : Prop := ∀ i, i < len → (av i).toNat ∈ ops
/-- Write's answer. -/
def WriteA (av : Nat → Int) (len : Nat) (s : ByteArray) (c : Int) : Prop := (AllOps av len ∧ s = wrA av len ∧ c = 0) ∨ (¬ AllOps av len ∧ s = ⟨#[]⟩ ∧ c = 8)

def WrRel (B : Nat) (av : Nat → Int) (len : Nat) (w : World) (v : Value) (wr : World) : Prop :=
  ∃ (i : Nat) (x : ByteArray), v = .int .i64 i ∧ i ≤ len ∧ AllOps av i ∧ x = wrA av i ∧ Bld B (Lib.strCells x) wr ∧ Below w.heap.size w wr

set_option maxRecDepth 100000 in
set_option maxHeartbeats 4000000 in
theorem write_any (ao : Option Addr) (len cap : Nat) (av : Nat → Int) (w : World) (hlen : len ≤ 30) (hrow : RowZ w ao len av) (hT : Tx w) :
    Calls Tryd.prog 19 #[.slice ao len cap] w fun e w' => ∃ s c, e = .returned (.tuple #[.string s, .int .i64 c]) ∧ WriteA av len s c ∧ Below w.heap.size w w' := by
  have HROW := Lib.hid hrow
  have HTX := Lib.hid hT
  clear hrow hT
  go_enter Tryd.func19, Tryd.ntmps19
  go_wp2
  go_loopw [10] (fun v wr => WrRel w.heap.size av len w v wr) (fun v _ => len - (intOf v).toNat)
  case atStart => exact ⟨0, _, rfl, Nat.zero_le _, fun i hi => absurd hi (by omega), rfl, Lib.fresh_isBuilder _ _ _, (Below.refl _ _).alloc (Nat.le_refl _) _⟩
  case round =>
    obtain ⟨i, x, rfl, hi, hall, hx, hbd, hB⟩ := hrel
    have HX := Lib.hid hx
    have HALL := Lib.hid hall
    have hxs : x.size ≤ 120 := by rw [hx]; have := wrA_size av i; omega
    clear hx hall
    by_cases hlt : i < len
    · have hlt2 : (i : Int) < len := by omega
      obtain ⟨b, off, rfl, hb, hcell⟩ := (HROW.out.below hB) i hlt
      obtain ⟨z, hz⟩ : ∃ z, av i = z := ⟨_, rfl⟩
      rw [hz] at hcell
      obtain ⟨t, ht⟩ : ∃ t, txt z.toNat = t := ⟨_, rfl⟩
      have htx := fun w' (hb : Below w.heap.size w w') => text_any z w' (HTX.out.b hb)
      rw [ht] at htx
      have HTXT := Lib.hid htx
      have hts : t.size ≤ 3 := by rw [← ht]; exact txt_le _
      have HZ := Lib.hid hz
      have HT := Lib.hid ht
      clear hz htx ht
      by_cases c1 : t.size = 0
      · have q1 := le_yes c1
        have q2 := le_iyes c1
        have hbad : ¬ AllOps av len := fun h => by
          have := h i hlt
          rw [HZ.out] at this
          exact txt_empty.1 (by rw [HT.out]; exact c1) this
        clear c1
        go_wp2_with fail
        refine (HTXT.out _ hB).mono ?_
        rintro e w2 ⟨rfl, rfl⟩
        go_wp2
        go_ret2
        exact ⟨_, _, rfl, .inr ⟨hbad, rfl, rfl⟩, hB⟩
      · have q1 := le_no c1
        have q2 := le_ino c1
        have hmem : z.toNat ∈ ops := Classical.byContradiction fun g => c1 (by rw [← HT.out]; exact txt_empty.2 g)
        have hall2 : AllOps av (i + 1) := fun k hk => by
          by_cases g : k = i
          · rw [g, HZ.out]; exact hmem
          · exact HALL.out k (by omega)
        have HA2 := Lib.hid hall2
        clear c1 hmem hall2
        by_cases h0 : i = 0
        · subst h0
          have hx0 : x = ⟨#[]⟩ := HX.out
          have hnew : Lib.strCells (wrA av 1) = Lib.strCells x ++ Lib.strCells t := by
            rw [wrA_one, HZ.out, HT.out, hx0]
            rfl
          have HN := Lib.hid hnew
          clear hx0 hnew
          simp only [Nat.add_zero] at hcell
          go_wp2_with fail
          refine (HTXT.out _ hB).mono ?_
          rintro e w2 ⟨rfl, rfl⟩
          go_wp2_with fail
          refine (bstring_any w.heap.size _ t _ hbd (by rw [Lib.strCells_length]; omega) (by omega) hB.size).mono ?_
          rintro e w3 ⟨rfl, hbd3, hb3⟩
          go_wp2
          go_roundw
          case rel => exact ⟨1, wrA av 1, rfl, by omega, HA2.out, rfl, by rw [HN.out]; exact hbd3, hB.trans hb3⟩
          case measure => simp [intOf]; omega
        · obtain ⟨j, rfl⟩ : ∃ j, i = j + 1 := ⟨i - 1, by omega⟩
          obtain ⟨b', off', e', hb', hcell'⟩ := (HROW.out.below hB) j (by omega)
          cases e'
          obtain ⟨y, hy⟩ : ∃ y, av j = y := ⟨_, rfl⟩
          rw [hy] at hcell'
          obtain ⟨tt, htt⟩ : ∃ tt, tightN y.toNat z.toNat = tt := ⟨_, rfl⟩
          have hti := fun w' (hb : Below w.heap.size w w') => tight_any y z w' (HTX.out.b hb)
          rw [htt] at hti
          have HTI := Lib.hid hti
          have hnew := wrA_next av j
          rw [hy, HZ.out, htt, HT.out, ← HX.out] at hnew
          obtain ⟨m, hm⟩ : ∃ m, m = j + 1 := ⟨_, rfl⟩
          rw [← hm] at hcell hlt2 ⊢
          have p1 : decide ((0 : Int) < m) = true := decide_eq_true_iff.2 (by omega)
          have p2 : decide (0 < m) = true := decide_eq_true_iff.2 (by omega)
          have e4 : IntKind.i64.wrap ((m : Int) - 1) = (j : Int) := by rw [IntWalk.i64_in _ (by omega)]; omega
          have HN := Lib.hid hnew
          have HM := Lib.hid hm
          have hjl : j < len := by omega
          have hjl2 : (j : Int) < len := by omega
          have hml : m < len := by omega
          clear hti htt hnew hy hm h0 hi hlt
          cases tt
          · go_wp2_with fail
            refine (HTXT.out _ hB).mono ?_
            rintro e w2 ⟨rfl, rfl⟩
            go_wp2_with fail
            refine (HTI.out _ hB).mono ?_
            rintro e w3 ⟨rfl, q, rfl⟩
            go_wp2_with fail
            refine (bbyte_any w.heap.size (Lib.strCells x) 32 (w2.drewN q) hbd (by rw [Lib.strCells_length]; omega) (below_drewN hB q).size).mono ?_
            rintro e w4 ⟨rfl, hbd4, hb4⟩
            have hB4 : Below w.heap.size w w4 := (below_drewN hB q).trans hb4
            go_wp2_with fail
            refine (bstring_any w.heap.size _ t _ hbd4 (by rw [List.length_append, Lib.strCells_length]; simp; omega) (by omega) hB4.size).mono ?_
            rintro e w5 ⟨rfl, hbd5, hb5⟩
            go_wp2
            go_roundw
            case rel =>
              refine ⟨m + 1, wrA av (m + 1), by go_num, by omega, by rw [HM.out]; exact HA2.out, rfl, ?_, hB4.trans hb5⟩
              have e5 : Lib.strCells (wrA av (m + 1)) = Lib.strCells x ++ [.int .u8 32] ++ Lib.strCells t := by
                rw [HM.out, HN.out, strCells_append, strCells_append]
                rfl
              rw [e5]
              exact hbd5
            case measure => simp [intOf]; omega
          · go_wp2_with fail
            refine (HTXT.out _ hB).mono ?_
            rintro e w2 ⟨rfl, rfl⟩
            go_wp2_with fail
            refine (HTI.out _ hB).mono ?_
            rintro e w3 ⟨rfl, q, rfl⟩
            go_wp2_with fail
            refine (bstring_any w.heap.size (Lib.strCells x) t (w2.drewN q) hbd (by rw [Lib.strCells_length]; omega) (by omega) (below_drewN hB q).size).mono ?_
            rintro e w5 ⟨rfl, hbd5, hb5⟩
            have hB5 : Below w.heap.size w w5 := (below_drewN hB q).trans hb5
            go_wp2
            go_roundw
            case rel =>
              refine ⟨m + 1, wrA av (m + 1), by go_num, by omega, by rw [HM.out]; exact HA2.out, rfl, ?_, hB5⟩
              have e5 : Lib.strCells (wrA av (m + 1)) = Lib.strCells x ++ Lib.strCells t := by
                rw [HM.out, HN.out, strCells_append, strCells_append]
                simp [Lib.strCells]
              rw [e5]
              exact hbd5
            case measure => simp [intOf]; omega
    · obtain rfl : i = len := by omega
      go_wp2_with fail
      refine (Tryd.Builder_String_any w.heap.size w.heap.size x.data.toList _ hbd hB.size).mono ?_
      rintro e w3 ⟨rfl, hb3⟩
      go_wp2
      go_ret2
      exact ⟨_, _, rfl, .inl ⟨HALL.out, HX.out, rfl⟩, hB.trans hb3⟩
end Go.Proofs.YtlfmpjneopeadaaDoor

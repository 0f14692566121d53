/- What the library's Concat at nodes, and Sub and Hang of layer 11 (tree) return. Condition: at most ten thousand nodes in all. -/
import Derived.Test.YtppipngdakfbpaaTrH
import Derived.Test.YtppipngdakfbpaaTrE
namespace Go.Proofs.Ytppipngdakfbpaa
open Go.RowKit
set_option linter.unusedVariables false

section
variable (w : World)
def CtRl (n m : Nat) (w : World) (v3 v11 : Value) (wr : World) : Prop :=
  wr = w ∧ ((v11 = .int .i64 0 ∧ v3 = .int .i64 0) ∨ (v11 = .int .i64 1 ∧ v3 = .int .i64 (n : Int)) ∨ (v11 = .int .i64 2 ∧ v3 = .int .i64 ((n : Int) + (m : Int))))
def CtRl2 (base n m : Nat) (LA LB : List Nd) (w : World) (v6 v27 : Value) (wr : World) : Prop :=
  Below base w wr ∧ ∃ oa oc, (v27 = .int .i64 0 ∧ v6 = .slice oa 0 oc ∧ wr.ownsRow base 30 4 (.slice oa 0 oc) 0 []) ∨ (v27 = .int .i64 1 ∧ v6 = .slice oa n oc ∧ wr.ownsRow base 30 4 (.slice oa n oc) n (cellsN LA)) ∨ (v27 = .int .i64 2 ∧ v6 = .slice oa (n + m) oc ∧ wr.ownsRow base 30 4 (.slice oa (n + m) oc) (n + m) (cellsN LA ++ cellsN LB))
set_option maxRecDepth 100000 in
set_option maxHeartbeats 4000000 in
theorem concat_any (g n m ac bc : Nat) (ao bo : Option Addr) (LA LB : List Nd) (hg0 : w.cell? ⟨g, 0, none⟩ = some (.slice ao n ac)) (hg1 : w.cell? ⟨g, 1, none⟩ = some (.slice bo m bc)) (hgl : g < w.heap.size) (hA : Src w (.slice ao n ac) n (cellsN LA)) (hB : Src w (.slice bo m bc) m (cellsN LB)) (hn : n = LA.length) (hm : m = LB.length) (h0 : 0 < n) (hl : n + m ≤ 100000) :
    Calls Try.prog 31 #[.slice (some ⟨g, 0, none⟩) 2 2] w fun e w' => (∃ oa oc, e = .returned (.slice oa (n + m) oc) ∧ w'.ownsRow w.heap.size 30 4 (.slice oa (n + m) oc) (n + m) (cellsN (LA ++ LB))) ∧ Below w.heap.size w w' := by
  have HA := Lib.hid hA
  have HB := Lib.hid hB
  have HN := Lib.hid (And.intro hn hm)
  have HG := Lib.hid (And.intro hg0 hg1)
  clear hA hB hn hm
  go_enter Try.func31, Try.ntmps31
  go_wp2
  go_loopw [3, 11] (fun v3 v11 wr => CtRl n m w v3 v11 wr) (fun _ v _ => 2 - (intOf v).toNat)
  case atStart => exact ⟨rfl, .inl ⟨rfl, rfl⟩⟩
  case round =>
    obtain ⟨hwr, hd⟩ := hrel
    obtain rfl : w = wr := hwr.symm
    clear hwr
    rcases hd with ⟨rfl, rfl⟩ | ⟨rfl, rfl⟩ | ⟨rfl, rfl⟩
    · go_wp2
      go_roundw
      case rel => exact ⟨by first | rfl | trivial, .inr (.inl ⟨rfl, rfl⟩)⟩
      case measure => simp [intOf]
    · go_wp2
      go_roundw
      case rel => exact ⟨by first | rfl | trivial, .inr (.inr ⟨rfl, rfl⟩)⟩
      case measure => simp [intOf]
    · have HW := Lib.hid (grow_nil w (n + m) (by omega) hl)
      have HW2 : Hid (Calls Try.prog 38 #[.slice none 0 0, .int .i64 ((n : Int) + (m : Int))] w fun e w' => (∃ oa oc, e = .returned (.slice oa 0 oc) ∧ w'.ownsRow w.heap.size 30 4 (.slice oa 0 oc) 0 []) ∧ Below w.heap.size w w') := Lib.hid (by have := HW.out; rwa [Int.natCast_add] at this)
      go_wp2_with fail
      refine HW2.out.mono ?_
      rintro e w1 ⟨⟨oa, oc, rfl, hO⟩, hb⟩
      have HO := Lib.hid hO
      have HB1 := Lib.hid hb
      clear hO hb hg0 hg1
      go_wp2
      go_loopw [6, 27] (fun v6 v27 wx => CtRl2 w.heap.size n m LA LB w v6 v27 wx) (fun _ v _ => 2 - (intOf v).toNat)
      case atStart => exact ⟨HB1.out, oa, oc, .inl ⟨rfl, rfl, HO.out⟩⟩
      case round =>
        obtain ⟨hb, oa, oc, (⟨rfl, rfl, hO⟩ | ⟨rfl, rfl, hO⟩ | ⟨rfl, rfl, hO⟩)⟩ := hrel
        · have c0 := (hb.cell (p := ⟨g, 0, none⟩) hgl).trans HG.out.1
          have HOX := Lib.hid hO
          have HBX := Lib.hid hb
          clear hO hb
          go_wp2_with (at_builtin; refine wpl_app_gen (by rfl) _ _ 22 30 4 32 _ (by rfl) Try.underlying22 infoN rfl (by omega) (by omega) w.heap.size _ 0 [] (by rfl) HOX.out _ n (cellsN LA) (by rfl) (HA.out.below HBX.out) (by rw [cellsN_length, ← HN.out.1]) (cellsN_one LA) (by omega) HBX.out.size n (by omega) ?_; intro oa2 oc2 w3 hown hgr hg)
          go_roundw
          case rel =>
            rw [List.nil_append] at hown
            exact ⟨HBX.out.grown hgr HBX.out.size (own_ge HOX.out), oa2, oc2, .inr (.inl ⟨rfl, rfl, hown⟩)⟩
          case measure => simp [intOf]
        · have c0 := (hb.cell (p := ⟨g, 1, none⟩) hgl).trans HG.out.2
          have HOX := Lib.hid hO
          have HBX := Lib.hid hb
          clear hO hb
          go_wp2_with (at_builtin; refine wpl_app_gen (by rfl) _ _ 22 30 4 32 _ (by rfl) Try.underlying22 infoN rfl (by omega) (by omega) w.heap.size _ n (cellsN LA) (by rfl) HOX.out _ m (cellsN LB) (by rfl) (HB.out.below HBX.out) (by rw [cellsN_length, ← HN.out.2]) (cellsN_one LB) (by omega) HBX.out.size (n + m) (by omega) ?_; intro oa2 oc2 w3 hown hgr hg)
          go_roundw
          case rel => exact ⟨HBX.out.grown hgr HBX.out.size (own_ge HOX.out), oa2, oc2, .inr (.inr ⟨rfl, rfl, hown⟩)⟩
          case measure => simp [intOf]
        · have HOX := Lib.hid hO
          have HBX := Lib.hid hb
          clear hO hb
          go_wp2
          go_ret
          exact ⟨⟨oa, oc, rfl, by rw [cellsN_append]; exact HOX.out⟩, HBX.out⟩
end
end Go.Proofs.Ytppipngdakfbpaa

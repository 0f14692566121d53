/- The walk of the statement UndoPlays where the number of steps may not be, or is large: it returns true. Condition: each text of the acts at most 2^47 bytes, which the reach of every statement gives. -/
import Derived.Test.YtgdamapocomhkaaUnG
import Derived.Test.YtgdamapocomhkaaUnX
namespace Go.Proofs.Ytgdamapocomhkaa
open Go.RowKit Go.Shelf
set_option linter.unusedVariables false

set_option maxRecDepth 100000 in
set_option maxHeartbeats 4000000 in
theorem plays_large (kv : Nat → Int) (sv : Nat → St) (m : Int) (A : Option Addr) (len cap : Nat) (w : World) (h : m < 1 ∨ 60 < m)
    (hrow : 0 < len → ∃ b off, A = some ⟨b, off, none⟩ ∧ ActRow w b off len kv sv) (hd : ∀ i, i < len → (sv i).del.size ≤ 140737488351232 ∧ (sv i).ins.size ≤ 140737488351232) :
    Calls Try.prog 3 #[.int .i64 m, .slice A len cap] w fun e w' => e = .returned (.bool true) ∧ Below w.heap.size w w' := by
  have HROW := Lib.hid hrow
  have HD := Lib.hid hd
  clear hrow hd
  by_cases c1 : m < 1
  · have m1 : ¬ (60 : Int) < m := by omega
    go_enter Try.func3, Try.ntmps3
    go_wp2_with fail
    refine (awake_any _).mono ?_
    rintro e w1 ⟨rfl, hb1⟩
    go_wp2_with fail
    refine (few_any kv sv A len cap _ (fun h => by obtain ⟨b, off, e, hr⟩ := HROW.out h; exact ⟨b, off, e, hr.below hb1⟩) HD.out).mono ?_
    rintro e w2 ⟨hp, rfl⟩
    rcases hp with rfl | ⟨rfl, hl40, hsm⟩
    · go_wp2
      go_ret
      exact ⟨rfl, hb1⟩
    · clear hsm
      go_wp2_with fail
      refine (new_bad m _ (.inl c1)).mono ?_
      rintro e w3 ⟨rfl, rfl⟩
      go_wp2
      go_ret
      exact ⟨rfl, hb1⟩
  · have m1 : (60 : Int) < m := by omega
    by_cases c2 : m ≤ 100000
    · go_enter Try.func3, Try.ntmps3
      go_wp2_with fail
      refine (awake_any _).mono ?_
      rintro e w1 ⟨rfl, hb1⟩
      go_wp2_with fail
      refine (few_any kv sv A len cap _ (fun h => by obtain ⟨b, off, e, hr⟩ := HROW.out h; exact ⟨b, off, e, hr.below hb1⟩) HD.out).mono ?_
      rintro e w2 ⟨hp, rfl⟩
      rcases hp with rfl | ⟨rfl, hl40, hsm⟩
      · go_wp2
        go_ret
        exact ⟨rfl, hb1⟩
      · clear hsm
        go_wp2
        go_ret
        exact ⟨rfl, hb1⟩
    · have c3 : ¬ m ≤ 100000 := c2
      have c4 : (100000 : Int) < m := by omega
      go_enter Try.func3, Try.ntmps3
      go_wp2_with fail
      refine (awake_any _).mono ?_
      rintro e w1 ⟨rfl, hb1⟩
      go_wp2_with fail
      refine (few_any kv sv A len cap _ (fun h => by obtain ⟨b, off, e, hr⟩ := HROW.out h; exact ⟨b, off, e, hr.below hb1⟩) HD.out).mono ?_
      rintro e w2 ⟨hp, rfl⟩
      rcases hp with rfl | ⟨rfl, hl40, hsm⟩
      · go_wp2
        go_ret
        exact ⟨rfl, hb1⟩
      · clear hsm
        go_wp2_with fail
        refine (new_bad m _ (.inr c4)).mono ?_
        rintro e w3 ⟨rfl, rfl⟩
        go_wp2
        go_ret
        exact ⟨rfl, hb1⟩
end Go.Proofs.Ytgdamapocomhkaa

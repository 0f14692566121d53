/- What layer 8's statement LiteralValues does: a text's value, its pattern, and what it is bare. No condition but that a text's length fits an int. -/
import Derived.Test.YtiklnlkakhghdaaLtJ
import Derived.Test.YtiklnlkakhghdaaLtUe
import Derived.Test.YtiklnlkakhghdaaLtV
namespace Go.Proofs.Ytiklnlkakhghdaa
open Go.RowKit
set_option linter.unusedVariables false

section
variable (w : World)
set_option maxRecDepth 100000 in
set_option maxHeartbeats 4000000 in
theorem literalValues_law (s : ByteArray) (hmax : s.size ≤ 9223372036854775807) :
    Calls Try.prog 4 #[.string s] w fun e w' => e = .returned (.bool true) ∧ Below w.heap.size w w' := by
  by_cases hs : s.size ≤ 100
  · have hz : ¬ (100 : Int) < (s.size : Int) := by omega
    have hv := fun W => value_any W s (by omega)
    have hp := fun W => pattern_any W s (by omega)
    have hb := fun W => bare8_any W s (by omega)
    have hrb := fun W => refbare_any W s (by omega)
    have hre := fun W => refexpands8_any W s (by omega)
    have hrp := fun W => refpattern8_any W s (by omega)
    have hct : catW (fun x => x.t) (PCs s) = bareL (PCs s) := catW_t _
    unfold MeR at hv hp
    rw [hct] at hv
    obtain ⟨X, hX⟩ : ∃ X, bareL (PCs s) = X := ⟨_, rfl⟩
    obtain ⟨Y, hY⟩ : ∃ Y, catW shP (PCs s) = Y := ⟨_, rfl⟩
    obtain ⟨b, hbb⟩ : ∃ b, (PCs s).any (fun x => x.ex) = b := ⟨_, rfl⟩
    rw [hX] at hv hb hrb
    rw [hY] at hp hrp
    rw [hbb] at hv hp hre
    clear hct hX hY hbb
    cases b with
    | true =>
      have HV : Hid (∀ W, Calls Try.prog 9 #[.string s] W fun e w' => e = .returned (.tuple #[.string ⟨#[]⟩, .bool false]) ∧ Below W.heap.size W w') := Lib.hid (fun W => (hv W).mono (fun e w' h => ⟨by have := h.1; rwa [if_pos rfl] at this, h.2⟩))
      have HP : Hid (∀ W, Calls Try.prog 10 #[.string s] W fun e w' => e = .returned (.tuple #[.string ⟨#[]⟩, .bool false]) ∧ Below W.heap.size W w') := Lib.hid (fun W => (hp W).mono (fun e w' h => ⟨by have := h.1; rwa [if_pos rfl] at this, h.2⟩))
      have HB := Lib.hid hb
      have HRB := Lib.hid hrb
      have HRE := Lib.hid hre
      clear hv hp hb hrb hre hrp
      go_enter Try.func4, Try.ntmps4
      go_wp2_with fail
      refine (awake8_any _).mono ?_
      rintro e w0 ⟨rfl, hB0⟩
      go_wp2_with fail
      refine (HV.out _).mono ?_
      rintro e w1 ⟨rfl, hB1⟩
      go_wp2_with fail
      refine (HP.out _).mono ?_
      rintro e w2 ⟨rfl, hB2⟩
      go_wp2_with fail
      refine (HB.out _).mono ?_
      rintro e w3 ⟨rfl, hB3⟩
      go_wp2_with fail
      refine (HRB.out _).mono ?_
      rintro e w4 ⟨rfl, hB4⟩
      go_wp2_with fail
      refine (HRE.out _).mono ?_
      rintro e w5 ⟨rfl, hB5⟩
      have h1 := hB0.trans (hB1.mono hB0.size)
      have h2 := h1.trans (hB2.mono h1.size)
      have h3 := h2.trans (hB3.mono h2.size)
      have h4 := h3.trans (hB4.mono h3.size)
      have h5 := h4.trans (hB5.mono h4.size)
      clear h1 h2 h3 h4 hB0 hB1 hB2 hB3 hB4 hB5
      go_wp2
      all_goals
        go_ret
        exact ⟨rfl, h5⟩
    | false =>
      have HV : Hid (∀ W, Calls Try.prog 9 #[.string s] W fun e w' => e = .returned (.tuple #[.string X, .bool true]) ∧ Below W.heap.size W w') := Lib.hid (fun W => (hv W).mono (fun e w' h => ⟨by have := h.1; rwa [if_neg (by decide)] at this, h.2⟩))
      have HP : Hid (∀ W, Calls Try.prog 10 #[.string s] W fun e w' => e = .returned (.tuple #[.string Y, .bool true]) ∧ Below W.heap.size W w') := Lib.hid (fun W => (hp W).mono (fun e w' h => ⟨by have := h.1; rwa [if_neg (by decide)] at this, h.2⟩))
      have HB := Lib.hid hb
      have HRB := Lib.hid hrb
      have HRE := Lib.hid hre
      have HRP := Lib.hid hrp
      clear hv hp hb hrb hre hrp
      go_enter Try.func4, Try.ntmps4
      go_wp2_with fail
      refine (awake8_any _).mono ?_
      rintro e w0 ⟨rfl, hB0⟩
      go_wp2_with fail
      refine (HV.out _).mono ?_
      rintro e w1 ⟨rfl, hB1⟩
      go_wp2_with fail
      refine (HP.out _).mono ?_
      rintro e w2 ⟨rfl, hB2⟩
      go_wp2_with fail
      refine (HB.out _).mono ?_
      rintro e w3 ⟨rfl, hB3⟩
      go_wp2_with fail
      refine (HRB.out _).mono ?_
      rintro e w4 ⟨rfl, hB4⟩
      go_wp2_with fail
      refine (HRE.out _).mono ?_
      rintro e w5 ⟨rfl, hB5⟩
      go_wp2_with fail
      refine (HRB.out _).mono ?_
      rintro e w6 ⟨rfl, hB6⟩
      go_wp2_with fail
      refine (HRP.out _).mono ?_
      rintro e w7 ⟨rfl, hB7⟩
      have h1 := hB0.trans (hB1.mono hB0.size)
      have h2 := h1.trans (hB2.mono h1.size)
      have h3 := h2.trans (hB3.mono h2.size)
      have h4 := h3.trans (hB4.mono h3.size)
      have h5 := h4.trans (hB5.mono h4.size)
      have h6 := h5.trans (hB6.mono h5.size)
      have h7 := h6.trans (hB7.mono h6.size)
      clear h1 h2 h3 h4 h5 h6 hB0 hB1 hB2 hB3 hB4 hB5 hB6 hB7
      go_wp2
      all_goals
        go_ret
        exact ⟨rfl, h7⟩
  · have hz : (100 : Int) < (s.size : Int) := by omega
    go_enter Try.func4, Try.ntmps4
    go_wp2_with fail
    refine (awake8_any _).mono ?_
    rintro e w0 ⟨rfl, hB0⟩
    go_wp2
    go_ret
    exact ⟨rfl, hB0⟩
end
end Go.Proofs.Ytiklnlkakhghdaa

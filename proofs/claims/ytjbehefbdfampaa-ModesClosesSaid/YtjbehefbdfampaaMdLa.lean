/- What layer 6's statement ModesRun does. No condition but that a text's length fits an int. -/
import Derived.Test.YtjbehefbdfampaaMdJ
namespace Go.Proofs.Ytjbehefbdfampaa
open Go.RowKit
set_option linter.unusedVariables false

theorem Rs.st {w : World} {b : Nat} {v : Value} {st : List Fr} (h : Rs w b v st.reverse) : ∃ g cap, v = .slice (some ⟨g, 0, none⟩) st.length cap ∧ b ≤ g ∧ Fw w g cap st.reverse := by
  obtain ⟨g, cap, h1, h2, h3⟩ := h
  exact ⟨g, cap, by rw [h1, List.length_reverse], h2, h3⟩
theorem Fw.below {w w' : World} {g cap : Nat} {l : List Fr} (h : Fw w g cap l) (hb : Below w.heap.size w w') : Fw w' g cap l := h.frm (Frm.of_below (p := fun _ => False) hb) (fun h => h)

set_option maxRecDepth 100000 in
set_option maxHeartbeats 4000000 in
theorem run_law (s : ByteArray) (w : World) (hz : s.size ≤ 9223372036854775807) :
    Calls Try.prog 3 #[.string s] w fun e w' => e = .returned (.bool true) ∧ Below w.heap.size w w' := by
  by_cases hbig : 200 < s.size
  · have t1 : decide ((200 : Int) < s.size) = true := decide_eq_true_iff.2 (by omega)
    go_enter Try.func3, Try.ntmps3
    go_wp2_with fail
    refine (awake_any _).mono ?_
    rintro e w1 ⟨rfl, hb1⟩
    go_wp2
    go_ret
    exact ⟨rfl, hb1⟩
  · have t1 : decide ((200 : Int) < s.size) = false := decide_eq_false_iff_not.2 (by omega)
    have hrun := fun W => run_any W s (by omega)
    have href := fun W => refrun_any W s (by omega)
    have hgood := good_all (runK_inv s s.size).good
    have hlen := runK_len s s.size
    obtain ⟨x, hx⟩ : ∃ x, runK s s.size = x := ⟨_, rfl⟩
    rw [hx] at hgood hlen
    simp only [hx] at hrun href
    have HG := Lib.hid hgood
    clear hx hgood
    go_enter Try.func3, Try.ntmps3
    go_wp2_with fail
    refine (awake_any _).mono ?_
    rintro e w1 ⟨rfl, hb1⟩
    go_wp2_with fail
    refine (hrun _).mono ?_
    rintro e w2 ⟨⟨v, rfl, hRs⟩, hb2⟩
    obtain ⟨gl, capl, rfl, hgl, hF⟩ := hRs.st
    go_wp2_with fail
    refine (href _).mono ?_
    rintro e w3 ⟨S, g, n, cap, rfl, hR, hb3, hg⟩
    have hq3 : Below w.heap.size w w3 := (hb1.trans (hb2.mono hb1.size)).trans (hb3.mono (Nat.le_trans hb1.size hb2.size))
    go_wp2_with fail
    refine (same_any _ x.st HG.out gl capl ((hF.below hb3).below ((Below.refl _ _).alloc (Nat.le_refl _) _)) S g n cap x.fresh (hR.below ((Below.refl _ _).alloc (Nat.le_refl _) _)) (by omega)).mono ?_
    rintro e w4 ⟨rfl, hb4⟩
    have hbox := (Blk.new w3 #[.string S, .slice (some ⟨g, 0, none⟩) n cap, .bool x.fresh] 28).below hb4
    have d2 : w4.cell? ⟨w3.heap.size, 2, none⟩ = some (.bool x.fresh) := hbox.cell 2
    go_wp2
    go_ret
    refine ⟨by simp, ?_⟩
    exact (hq3.alloc hq3.size _).trans (hb4.mono (by have := hq3.size; simp; omega))
end Go.Proofs.Ytjbehefbdfampaa

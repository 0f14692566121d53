/- What Done and Undone of layer 2 (undo) return: new rows of the steps that were done, and of those that were undone. Conditions: the journal at hand lies in memory as such, with at most a million steps. -/
import Derived.Test.YtgdamapocomhkaaUnM
namespace Go.Proofs.Ytgdamapocomhkaa
open Go.RowKit Go.Shelf
set_option linter.unusedVariables false

theorem toldT_any (a : Option Addr) (len cap : Nat) (w : World) :
    Calls Try.prog 27 #[.slice a len cap] w fun e w' => e = .returned (.func (.func 31) #[] #[.pointer (some ⟨w.heap.size, 0, none⟩)]) ∧ w' = w.alloc (.cells #[.slice a len cap] 27) :=
  (callsIn_wide (n := 3)).1 (toldT_in _ _ trivial rfl a len cap w)
theorem listT_any (Bn : Nat) (sv : Value) (zs : List St) (hlen : zs.length ≤ 1000000) (w : World)
    (hBs : Bn < w.heap.size) (hc : w.cell? ⟨Bn, 0, none⟩ = some sv) (hI : Reads w.heap.size w sv zs) :
    Calls Try.prog 26 #[.func (.func 31) #[] #[.pointer (some ⟨Bn, 0, none⟩)]] w fun e W' => ∃ v, e = .returned v ∧ W'.ownsRow w.heap.size 31 5 v zs.length (cellsOf zs) ∧ Below w.heap.size w W' :=
  (callsIn_wide (n := 3)).1 (listT_in _ _ trivial trivial rfl (Nat.le_refl _) Bn sv zs hlen w hBs hc hI)

theorem row_mono {w : World} {base base' : Nat} {e : TypeId} {size : Nat} {v : Value} {n : Nat} {xs : List Value} (h : w.ownsRow base e size v n xs) (hb : base' ≤ base) : w.ownsRow base' e size v n xs :=
  ⟨h.1, h.2.imp id fun ⟨g, cap, cur, h1, h2, h3⟩ => ⟨g, cap, cur, h1, Nat.le_trans hb h2, h3⟩⟩
/-- What list returns right behind told: told has laid the slice value in a new block. -/
theorem list_after (sv : Value) (zs : List St) (hlen : zs.length ≤ 1000000) (w : World) (hI : Reads w.heap.size w sv zs) :
    Calls Try.prog 26 #[.func (.func 31) #[] #[.pointer (some ⟨w.heap.size, 0, none⟩)]] (w.alloc (.cells #[sv] 27)) fun e W' => ∃ v, e = .returned v ∧ W'.ownsRow w.heap.size 31 5 v zs.length (cellsOf zs) ∧ Below w.heap.size w W' := by
  have hb : Below w.heap.size w (w.alloc (.cells #[sv] 27)) := (Below.refl _ _).alloc (Nat.le_refl _) _
  refine (listT_any w.heap.size sv zs hlen _ (by simp) ((Blk.new w #[sv] 27).cell 0) ?_).mono ?_
  · rcases hI.below hb with h | ⟨b, off, cap, h1, h2, h3, h4⟩
    · exact .inl h
    · exact .inr ⟨b, off, cap, h1, by simp; omega, h3, h4⟩
  · rintro e W' ⟨v, rfl, ho, hB⟩
    exact ⟨v, rfl, row_mono ho (by simp), below_new _ hB⟩

section
variable (jb most : Nat) (sv : Value) (steps : List St) (w : World) (done : Nat)

/-- The first steps of a row, and the others, as rows of their own. -/
theorem reads_take {n : Nat} {W : World} {b off cap : Nat} {zs : List St} (hb : b < n) (hd : done ≤ zs.length) (hc : zs.length ≤ cap) (h : ∀ j, j < zs.length → StepAt W b (off + j * 5) (zs[j]?.getD St.zero)) :
    Reads n W (.slice (some ⟨b, off, none⟩) done cap) (zs.take done) := by
  have hl : (zs.take done).length = done := by simp; omega
  refine .inr ⟨b, off, cap, by rw [hl], hb, by omega, fun j hj => ?_⟩
  rw [hl] at hj
  have := h j (by omega)
  rwa [List.getElem?_take_of_lt hj]
theorem reads_drop {n : Nat} {W : World} {b off cap : Nat} {zs : List St} (hb : b < n) (hd : done ≤ zs.length) (hc : zs.length ≤ cap) (h : ∀ j, j < zs.length → StepAt W b (off + j * 5) (zs[j]?.getD St.zero)) :
    Reads n W (.slice (some ⟨b, off + done * 5, none⟩) (zs.length - done) (cap - done)) (zs.drop done) := by
  have hl : (zs.drop done).length = zs.length - done := by simp
  refine .inr ⟨b, off + done * 5, cap - done, by rw [hl], hb, by omega, fun j hj => ?_⟩
  rw [hl] at hj
  have := h (done + j) (by omega)
  rw [List.getElem?_drop]
  have e : off + done * 5 + j * 5 = off + (done + j) * 5 := by omega
  rwa [e]

set_option maxHeartbeats 1000000 in
theorem done_any (hJ : Jn w jb most sv steps done) (hlen : steps.length ≤ 1000000) :
    Calls Try.prog 14 #[.pointer (some ⟨jb, 0, none⟩)] w fun e w' => ∃ v, e = .returned v ∧ w'.ownsRow w.heap.size 31 5 v (steps.take done).length (cellsOf (steps.take done)) ∧ Below w.heap.size w w' := by
  have hle := hJ.le
  have c2 : w.cell? ⟨jb, 2, none⟩ = some (.int .i64 done) := hJ.obj.cell 2
  have hl := hJ.obj.lt
  have n1 := World.new_ne w ⟨jb, 0, none⟩ (hJ.obj.cell 0)
  have c1' := hJ.obj.cell 1
  have hlt : (steps.take done).length ≤ 1000000 := by simp; omega
  rcases hJ.row with ⟨rfl, h0⟩ | ⟨b, off, cap, cs, rfl, hlc, hbj, hB, hfit, hsteps⟩
  · subst h0
    obtain rfl : done = 0 := by simpa using hle
    have c1 : w.cell? ⟨jb, 1, none⟩ = some (.slice none 0 0) := c1'
    have hR : Reads w.drew.heap.size w.drew (.slice none 0 0) [] := .inl ⟨rfl, rfl⟩
    go_enter Try.func14, Try.ntmps14
    go_wp2
    go_region_held3 (fun w' => w'.cell? ⟨jb, 1, none⟩ = some (.slice none 0 0) ∧ w'.cell? ⟨jb, 2, none⟩ = some (.int .i64 (0 : Nat)))
      (first | go_keep | trivial)
      (first
        | (go_at_call 27; refine (toldT_any _ _ _ _).mono ?_; rintro e w1 ⟨rfl, rfl⟩)
        | (go_at_call 26; refine (list_after _ [] (by decide) w.drew hR).mono ?_; rintro e w1 ⟨v, rfl, hown, hbel⟩; obtain ⟨hcc, _⟩ := bcell hbel; have k1 := (hcc jb 1 hl).trans c1; have k2 := (hcc jb 2 hl).trans c2))
    go_wp2
    go_ret
    exact ⟨v, rfl, hown, ⟨hbel.os, hbel.tape, hbel.output, hbel.size, hbel.block⟩⟩
  · have c1 : w.cell? ⟨jb, 1, none⟩ = some (.slice (some ⟨b, off, none⟩) steps.length cap) := c1'
    have hbl := hB.lt
    have q2 : (0 : Int) ≤ (done : Int) := by omega
    have q3 : (done : Int) ≤ (cap : Int) := by omega
    have q4 : (done : Int) ≤ (steps.length : Int) := by omega
    have hR := reads_take (n := w.drew.heap.size) (W := w.drew) done hbl hle hlc hsteps
    go_enter Try.func14, Try.ntmps14
    go_wp2
    go_region_held3 (fun w' => w'.cell? ⟨jb, 1, none⟩ = some (.slice (some ⟨b, off, none⟩) steps.length cap) ∧ w'.cell? ⟨jb, 2, none⟩ = some (.int .i64 done))
      (first | go_keep | trivial)
      (first
        | (go_at_call 27; refine (toldT_any _ _ _ _).mono ?_; rintro e w1 ⟨rfl, rfl⟩)
        | (go_at_call 26; refine (list_after _ (steps.take done) hlt w.drew hR).mono ?_; rintro e w1 ⟨v, rfl, hown, hbel⟩; obtain ⟨hcc, _⟩ := bcell hbel; have k1 := (hcc jb 1 hl).trans c1; have k2 := (hcc jb 2 hl).trans c2))
    go_wp2
    go_ret
    exact ⟨v, rfl, hown, ⟨hbel.os, hbel.tape, hbel.output, hbel.size, hbel.block⟩⟩

set_option maxHeartbeats 1000000 in
theorem undone_any (hJ : Jn w jb most sv steps done) (hlen : steps.length ≤ 1000000) :
    Calls Try.prog 15 #[.pointer (some ⟨jb, 0, none⟩)] w fun e w' => ∃ v, e = .returned v ∧ w'.ownsRow w.heap.size 31 5 v (steps.drop done).length (cellsOf (steps.drop done)) ∧ Below w.heap.size w w' := by
  have hle := hJ.le
  have c2 : w.cell? ⟨jb, 2, none⟩ = some (.int .i64 done) := hJ.obj.cell 2
  have hl := hJ.obj.lt
  have n1 := World.new_ne w ⟨jb, 0, none⟩ (hJ.obj.cell 0)
  have c1' := hJ.obj.cell 1
  have hlt : (steps.drop done).length ≤ 1000000 := by simp; omega
  rcases hJ.row with ⟨rfl, h0⟩ | ⟨b, off, cap, cs, rfl, hlc, hbj, hB, hfit, hsteps⟩
  · subst h0
    obtain rfl : done = 0 := by simpa using hle
    have c1 : w.cell? ⟨jb, 1, none⟩ = some (.slice none 0 0) := c1'
    have hR : Reads w.drew.heap.size w.drew (.slice none 0 0) [] := .inl ⟨rfl, rfl⟩
    go_enter Try.func15, Try.ntmps15
    go_wp2
    go_region_held3 (fun w' => w'.cell? ⟨jb, 1, none⟩ = some (.slice none 0 0) ∧ w'.cell? ⟨jb, 2, none⟩ = some (.int .i64 (0 : Nat)))
      (first | go_keep | trivial)
      (first
        | (go_at_call 27; refine (toldT_any _ _ _ _).mono ?_; rintro e w1 ⟨rfl, rfl⟩)
        | (go_at_call 26; refine (list_after _ [] (by decide) w.drew hR).mono ?_; rintro e w1 ⟨v, rfl, hown, hbel⟩; obtain ⟨hcc, _⟩ := bcell hbel; have k1 := (hcc jb 1 hl).trans c1; have k2 := (hcc jb 2 hl).trans c2))
    go_wp2
    go_ret
    exact ⟨v, rfl, hown, ⟨hbel.os, hbel.tape, hbel.output, hbel.size, hbel.block⟩⟩
  · have c1 : w.cell? ⟨jb, 1, none⟩ = some (.slice (some ⟨b, off, none⟩) steps.length cap) := c1'
    have hbl := hB.lt
    have q2 : (0 : Int) ≤ (done : Int) := by omega
    have q3 : (done : Int) ≤ (cap : Int) := by omega
    have q4 : (done : Int) ≤ (steps.length : Int) := by omega
    by_cases hdc : done < cap
    · have hdc' : 0 < cap - done := by omega
      have hR := reads_drop (n := w.drew.heap.size) (W := w.drew) done hbl hle hlc hsteps
      go_enter Try.func15, Try.ntmps15
      go_wp2
      go_region_held3 (fun w' => w'.cell? ⟨jb, 1, none⟩ = some (.slice (some ⟨b, off, none⟩) steps.length cap) ∧ w'.cell? ⟨jb, 2, none⟩ = some (.int .i64 done))
        (first | go_keep | trivial)
        (first
          | (go_at_call 27; refine (toldT_any _ _ _ _).mono ?_; rintro e w1 ⟨rfl, rfl⟩)
          | (go_at_call 26; refine (list_after _ (steps.drop done) hlt w.drew hR).mono ?_; rintro e w1 ⟨v, rfl, hown, hbel⟩; obtain ⟨hcc, _⟩ := bcell hbel; have k1 := (hcc jb 1 hl).trans c1; have k2 := (hcc jb 2 hl).trans c2))
      go_wp2
      go_ret
      exact ⟨v, rfl, hown, ⟨hbel.os, hbel.tape, hbel.output, hbel.size, hbel.block⟩⟩
    · obtain rfl : done = cap := by omega
      have hz : ¬ 0 < done - done := by omega
      have hl0 : steps.length - done = 0 := by omega
      have hc0 : done - done = 0 := by omega
      have hdr : steps.drop done = [] := by apply List.eq_nil_of_length_eq_zero; simp; omega
      have hR : Reads w.drew.heap.size w.drew (.slice (some ⟨b, off, none⟩) 0 0) (steps.drop done) := .inr ⟨b, off, 0, by rw [hdr]; rfl, hbl, by rw [hdr]; simp, fun j hj => by rw [hdr] at hj; simp at hj⟩
      go_enter Try.func15, Try.ntmps15
      go_wp2
      go_region_held3 (fun w' => w'.cell? ⟨jb, 1, none⟩ = some (.slice (some ⟨b, off, none⟩) steps.length done) ∧ w'.cell? ⟨jb, 2, none⟩ = some (.int .i64 done))
        (first | go_keep | trivial)
        (first
          | (go_at_call 27; refine (toldT_any _ _ _ _).mono ?_; rintro e w1 ⟨rfl, rfl⟩)
          | (go_at_call 26; refine (list_after _ (steps.drop done) hlt w.drew hR).mono ?_; rintro e w1 ⟨v, rfl, hown, hbel⟩; obtain ⟨hcc, _⟩ := bcell hbel; have k1 := (hcc jb 1 hl).trans c1; have k2 := (hcc jb 2 hl).trans c2))
      go_wp2
      go_ret
      exact ⟨v, rfl, hown, ⟨hbel.os, hbel.tape, hbel.output, hbel.size, hbel.block⟩⟩
end
end Go.Proofs.Ytgdamapocomhkaa

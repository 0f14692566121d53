/- The memory of a ring of layer 2 (undo), and what Top and Texts return. Condition: the ring at hand lies in memory as such. -/
import Derived.Test.YtgdamapocomhkaaUnM
import Derived.StillTailTactics
import Derived.Lib.MinMax
namespace Go.Proofs.Ytgdamapocomhkaa
open Go.RowKit Go.Shelf
set_option linter.unusedVariables false

/-- The ring at rb: twenty texts, and how many of them count. -/
structure Rg (w : World) (rb : Nat) (f : Nat → Bs) (n : Nat) : Prop where
  obj : ∃ cs, Blk w rb cs 55 ∧ cs.size = 21
  text : ∀ j, j < 20 → w.cell? ⟨rb, j, none⟩ = some (.string (f j))
  count : w.cell? ⟨rb, 20, none⟩ = some (.int .i64 n)
  le : n ≤ 20
theorem Rg.lt {w : World} {rb : Nat} {f : Nat → Bs} {n : Nat} (h : Rg w rb f n) : rb < w.heap.size := by
  obtain ⟨cs, hb, _⟩ := h.obj
  exact hb.lt
theorem Rg.frozen {w : World} {rb : Nat} {f : Nat → Bs} {n : Nat} (h : Rg w rb f n) (o : Nat) : w.frozen? ⟨rb, o, none⟩ = false := by
  obtain ⟨cs, hb, _⟩ := h.obj
  exact hb.frozen o
theorem Rg.there {w : World} {rb : Nat} {f : Nat → Bs} {n : Nat} (h : Rg w rb f n) (o : Nat) (ho : o ≤ 20) : (w.cell? ⟨rb, o, none⟩).isSome = true := by
  by_cases c : o < 20
  · rw [h.text o c]; rfl
  · obtain rfl : o = 20 := by omega
    rw [h.count]; rfl
theorem Rg.frm {p : Nat → Prop} {w w' : World} {rb : Nat} {f : Nat → Bs} {n : Nat} (h : Rg w rb f n) (hf : Frm p w w') (hp : ¬ p rb) : Rg w' rb f n := by
  obtain ⟨cs, hb, hs⟩ := h.obj
  exact ⟨⟨cs, hb.frm hf hp, hs⟩, fun j hj => (hf.cell (a := ⟨rb, j, none⟩) hb.lt hp).trans (h.text j hj), (hf.cell (a := ⟨rb, 20, none⟩) hb.lt hp).trans h.count, h.le⟩
theorem Rg.below {w w' : World} {rb : Nat} {f : Nat → Bs} {n : Nat} (h : Rg w rb f n) (hb : Below w.heap.size w w') : Rg w' rb f n := h.frm (Frm.of_below (p := fun _ => False) hb) (fun h => h)
theorem Rg.drew {w : World} {rb : Nat} {f : Nat → Bs} {n : Nat} (h : Rg w rb f n) : Rg w.drew rb f n := h.frm ((Frm.refl (fun _ => False) w).drew) (fun h => h)
theorem Rg.congr {w : World} {rb : Nat} {f g : Nat → Bs} {n : Nat} (h : Rg w rb f n) (e : ∀ j, j < 20 → f j = g j) : Rg w rb g n := ⟨h.obj, fun j hj => by rw [← e j hj]; exact h.text j hj, h.count, h.le⟩
/-- Some texts of the ring are written. -/
theorem Rg.sets {w : World} {rb : Nat} {f : Nat → Bs} {n : Nat} (h : Rg w rb f n) (o m : Nat) (g : Nat → Bs) (hm : o + m ≤ 20) :
    Rg (w.setCells rb o ((List.range m).map (fun j => Value.string (g j)))) rb (fun j => if o ≤ j ∧ j < o + m then g (j - o) else f j) n := by
  obtain ⟨cs, hb, hs⟩ := h.obj
  obtain ⟨cs', hb', hs'⟩ := Blk.sets ((List.range m).map (fun j => Value.string (g j))) o hb
  have hl : ((List.range m).map (fun j => Value.string (g j))).length = m := by simp
  refine ⟨⟨cs', hb', by omega⟩, fun j hj => ?_, ?_, h.le⟩
  · by_cases c : o ≤ j ∧ j < o + m
    · rw [if_pos c]
      obtain ⟨k, rfl⟩ : ∃ k, j = o + k := ⟨j - o, by omega⟩
      rw [World.cell?_setCells_in rb _ o w (fun i hi => h.there _ (by omega)) k (by omega)]
      simp
    · rw [if_neg c, World.cell?_setCells_out _ _ _ _ _ (fun _ _ => by rw [hl]; show j < o ∨ o + m ≤ j; omega)]
      exact h.text j hj
  · rw [World.cell?_setCells_out _ _ _ _ _ (fun _ _ => .inr (by rw [hl]; show o + m ≤ 20; omega))]
    exact h.count
/-- One text of the ring is written. -/
theorem Rg.put {w : World} {rb : Nat} {f : Nat → Bs} {n : Nat} (h : Rg w rb f n) (k : Nat) (t : Bs) (hk : k < 20) : Rg (w.setCell ⟨rb, k, none⟩ (.string t)) rb (fun j => if j = k then t else f j) n := by
  have := h.sets k 1 (fun _ => t) (by omega)
  refine Rg.congr this (fun j hj => ?_)
  by_cases c : j = k
  · rw [if_pos c, if_pos (by omega)]
  · rw [if_neg c, if_neg (by omega)]
/-- How many count is written. -/
theorem Rg.num {w : World} {rb : Nat} {f : Nat → Bs} {n : Nat} (h : Rg w rb f n) (m : Nat) (hm : m ≤ 20) : Rg (w.setCell ⟨rb, 20, none⟩ (.int .i64 (m : Int))) rb f m := by
  obtain ⟨cs, hb, hs⟩ := h.obj
  refine ⟨⟨_, hb.set 20 _, by simpa using hs⟩, fun j hj => ?_, ?_, hm⟩
  · rw [World.cell?_setCell_other _ _ _ _ (by simp <;> omega)]
    exact h.text j hj
  · exact World.cell?_setCell_same _ _ _ h.count

set_option maxHeartbeats 1000000 in
theorem top_any (rb n : Nat) (f : Nat → Bs) (w : World) (h : Rg w rb f n) (t : Bs) (ht : f 0 = t) :
    Calls Try.prog 22 #[.pointer (some ⟨rb, 0, none⟩)] w fun e w' => e = .returned (.tuple #[.string t, .bool (decide (0 < n))]) ∧ Below w.heap.size w w' := by
  have c0 := h.text 0 (by omega)
  rw [ht] at c0
  have c20 := h.count
  by_cases hn : 0 < n
  · have hn' : (0 : Int) < (n : Int) := by omega
    have e : decide (0 < n) = true := by simpa using hn
    rw [e]
    go_enter Try.func22, Try.ntmps22
    go_wp2
    go_quiet (fail)
    go_wp2
    exact bodyPost_ret (v := .tuple #[.string t, .bool true]) (by simp [results, Try.results22, go_sem]) rfl ⟨rfl, below_drewN (Below.refl _ _) _⟩
  · have hn' : ¬ (0 : Int) < (n : Int) := by omega
    have e : decide (0 < n) = false := by simpa using hn
    rw [e]
    go_enter Try.func22, Try.ntmps22
    go_wp2
    go_quiet (fail)
    go_wp2
    exact bodyPost_ret (v := .tuple #[.string t, .bool false]) (by simp [results, Try.results22, go_sem]) rfl ⟨rfl, below_drewN (Below.refl _ _) _⟩

theorem toldS_any (a : Option Addr) (len cap : Nat) (w : World) :
    Calls Try.prog 30 #[.slice a len cap] w fun e w' => e = .returned (.func (.func 34) #[] #[.pointer (some ⟨w.heap.size, 0, none⟩)]) ∧ w' = w.alloc (.cells #[.slice a len cap] 56) :=
  (callsIn_wide (n := 3)).1 (toldS_in _ _ trivial rfl a len cap w)
theorem listS_after (b off cap : Nat) (zs : List Bs) (hlen : zs.length ≤ 1000000) (w : World) (hI : StrsAt w.heap.size w b off zs) :
    Calls Try.prog 29 #[.func (.func 34) #[] #[.pointer (some ⟨w.heap.size, 0, none⟩)]] (w.alloc (.cells #[.slice (some ⟨b, off, none⟩) zs.length cap] 56)) fun e W' => ∃ v, e = .returned v ∧ W'.ownsRow w.heap.size 9 1 v zs.length (zs.map Value.string) ∧ Below w.heap.size w W' := by
  have hb : Below w.heap.size w (w.alloc (.cells #[.slice (some ⟨b, off, none⟩) zs.length cap] 56)) := (Below.refl _ _).alloc (Nat.le_refl _) _
  refine ((callsIn_wide (n := 3)).1 (listS_in _ _ trivial trivial rfl (Nat.le_refl _) w.heap.size b off cap zs hlen _ (by simp) ((Blk.new w #[.slice (some ⟨b, off, none⟩) zs.length cap] 56).cell 0) ⟨by simp; have := hI.1; omega, fun j hj => (hb.cell (p := ⟨b, off + j, none⟩) hI.1).trans (hI.2 j hj)⟩)).mono ?_
  rintro e W' ⟨v, rfl, ho, hB⟩
  refine ⟨v, rfl, ⟨ho.1, ho.2.imp id fun ⟨g, cap, cur, h1, h2, h3⟩ => ⟨g, cap, cur, h1, Nat.le_trans (by simp) h2, h3⟩⟩, below_new _ hB⟩

set_option maxHeartbeats 1000000 in
theorem texts_any (rb n : Nat) (f : Nat → Bs) (w : World) (h : Rg w rb f n) :
    Calls Try.prog 23 #[.pointer (some ⟨rb, 0, none⟩)] w fun e w' => (∃ v, e = .returned v ∧ w'.ownsRow w.heap.size 9 1 v n (((List.range n).map f).map Value.string)) ∧ Below w.heap.size w w' := by
  have c20 := h.count
  have hl := h.lt
  have hn := h.le
  have htl : ((List.range n).map f).length = n := by simp
  have hq0 : (0 : Int) ≤ (n : Int) := by omega
  have hq1 : (n : Int) ≤ 20 := by omega
  have hR : StrsAt w.drew.heap.size w.drew rb 0 ((List.range n).map f) := ⟨hl, fun j hj => by
    rw [htl] at hj
    have := h.text j (by omega)
    rw [Nat.zero_add]
    simpa [hj] using this⟩
  have hcon := listS_after rb 0 20 ((List.range n).map f) (by rw [htl]; omega) w.drew hR
  rw [htl] at hcon
  have HCON := Lib.hid hcon
  clear hcon
  go_enter Try.func23, Try.ntmps23
  go_wp2
  go_region_held3 (fun X => X.cell? ⟨rb, 20, none⟩ = some (.int .i64 n))
    (first | go_keep | trivial)
    (first
      | (go_at_call 30; refine (toldS_any _ _ _ _).mono ?_; rintro e w1 ⟨rfl, rfl⟩)
      | (go_at_call 29; refine HCON.out.mono ?_; rintro e w1 ⟨v, rfl, hown, hbel⟩; have k1 := (hbel.cell (p := ⟨rb, 20, none⟩) hl).trans c20))
  go_wp2
  go_ret
  exact ⟨⟨v, rfl, hown⟩, ⟨hbel.os, hbel.tape, hbel.output, hbel.size, hbel.block⟩⟩

theorem wpList_copyS {ops : Array Oper} {rest : List Oper} {o : Oper} {a : Act} {w : World} {Q : Exit → Act → World → Prop} (hgd : o.guard = none) (d s : Operand)
    (ho : o.op = .call { callee := .builtin .copy, args := #[d, s], argTypes := #[56, 56] })
    (b off dLen dCap : Nat) (src : Addr) (sLen sCap : Nat) (cs : List Value) (hd : a.eval d = .slice (some ⟨b, off, none⟩) dLen dCap) (hs : a.eval s = .slice (some src) sLen sCap) (hn : cs.length = Nat.min sLen dLen)
    (hsrc : ∀ j v, cs[j]? = some v → w.cell? (src.add j) = some v) (hc : ∀ j, j < cs.length → (w.cell? ⟨b, off + j, none⟩).isSome = true) (hf : ∀ j, j < cs.length → w.frozen? ⟨b, off + j, none⟩ = false) (h1 : ∀ v ∈ cs, v.oneCell' = true)
    (h : wpList Try.prog ops Q rest (a.put o.dst (goInt cs.length)) (w.setCells b off cs)) : wpList Try.prog ops Q (o :: rest) a w := by
  refine wpList_plain hgd fun K hK => ?_
  have hr := run_copy_cells (P := Try.prog) w 56 56 o.type 9 b off dLen dCap src sLen sCap cs Try.underlying56 (by kernel_rfl) hn hsrc hc hf h1
  unfold Oper.wp execOp
  simp only [ho, resolve, invoke, builtin, Sem.run_bind, Sem.run_pure, Result.andThen_ok, List.map_toArray, List.map_cons, List.map_nil, hd, hs, hr]
  exact hK _ _ h
/-- So many texts of the ring from the k-th on, as a copy reads them. -/
theorem Rg.reads {w : World} {rb : Nat} {f : Nat → Bs} {n : Nat} (h : Rg w rb f n) (k m : Nat) (hm : k + m ≤ 20) : ∀ j v, ((List.range m).map (fun j => Value.string (f (k + j))))[j]? = some v → w.cell? ((⟨rb, k, none⟩ : Addr).add j) = some v := by
  intro j v hv
  have hj : j < m := by simpa using (List.getElem?_eq_some_iff.1 hv).1
  have e : (⟨rb, k, none⟩ : Addr).add j = ⟨rb, k + j, none⟩ := by unfold Addr.add; split <;> simp_all
  rw [e, h.text _ (by omega), ← hv]
  simp [hj]
theorem range_one (m : Nat) (g : Nat → Bs) : ∀ v ∈ (List.range m).map (fun j => Value.string (g j)), v.oneCell' = true := by
  intro v hv
  obtain ⟨j, _, rfl⟩ := List.mem_map.1 hv
  rfl

section
variable (rb n : Nat) (f : Nat → Bs) (w : World)
set_option maxHeartbeats 1000000 in
theorem kill_nil (m : Int) : Calls Try.prog 20 #[.pointer (some ⟨rb, 0, none⟩), .string ⟨#[]⟩, .int .i64 m] w fun e w' => (∃ v, e = .returned v) ∧ Below w.heap.size w w' := by
  go_enter Try.func20, Try.ntmps20
  go_wp2
  refine bodyPost_end (results_none rfl _ _ _) rfl ?_
  exact ⟨⟨_, rfl⟩, Below.refl _ _⟩

set_option maxHeartbeats 2000000 in
theorem kill_new (h : Rg w rb f n) (s : Bs) (hs : s ≠ ⟨#[]⟩) (m : Int) (hm : n = 0 ∨ m = 0) :
    Calls Try.prog 20 #[.pointer (some ⟨rb, 0, none⟩), .string s, .int .i64 m] w fun e w' => (∃ v, e = .returned v) ∧ Rg w' rb (fun j => if j = 0 then s else f (j - 1)) (min (n + 1) 20) ∧ Frm (fun k => k = rb) w w' := by
  have hse : s.toList.isEmpty = false := by
    cases hh : s.toList.isEmpty with
    | false => rfl
    | true =>
      exfalso
      rw [List.isEmpty_iff, Go.ByteArray.toList_eq] at hh
      exact hs (ByteArray.ext (by simpa using hh))
  have c20 := h.count
  have hle := h.le
  have H := Lib.hid h
  clear h
  have hn20 : min ((n : Int) + 1) 20 = ((min (n + 1) 20 : Nat) : Int) := by omega
  have key : ∀ X : World, Rg X rb f n → Rg (((X.setCells rb 1 ((List.range 19).map (fun j => Value.string (f (0 + j))))).setCell ⟨rb, 0, none⟩ (.string s)).setCell ⟨rb, 20, none⟩ (.int .i64 ((min (n + 1) 20 : Nat) : Int))) rb (fun j => if j = 0 then s else f (j - 1)) (min (n + 1) 20) := by
    intro X hX
    refine Rg.congr (((hX.sets 1 19 (fun j => f (0 + j)) (by omega)).put 0 s (by omega)).num (min (n + 1) 20) (by omega)) (fun j hj => ?_)
    by_cases c : j = 0
    · rw [if_pos c, if_pos c]
    · rw [if_neg c, if_neg c, if_pos (by omega)]
      simp
  have KEY := Lib.hid key
  clear key
  by_cases hnz : n = 0
  · have hn0 : ¬ (0 : Int) < (n : Int) := by omega
    clear hnz hm
    go_enter Try.func20, Try.ntmps20
    go_wp2
    go_still_tail 8, (by kernel_rfl)
    change wpList _ _ _ _ _ w.drew
    have h2 := (H.out.drew).sets 1 19 (fun j => f (0 + j)) (by omega)
    have l0 := h2.text 0 (by omega)
    have l20 := h2.count
    have lf0 := h2.frozen 0
    have lf20 := h2.frozen 20
    refine wpList_copyS rfl _ _ rfl rb 1 19 19 ⟨rb, 0, none⟩ 20 20 ((List.range 19).map (fun j => Value.string (f (0 + j)))) rfl rfl (by rw [List.length_map, List.length_range]; rfl) (H.out.drew.reads 0 19 (by omega)) (fun j hj => H.out.drew.there _ (by simp at hj; omega)) (fun j hj => H.out.drew.frozen _) (range_one 19 (fun j => f (0 + j))) ?_
    have HK2 := Lib.hid (KEY.out w.drew H.out.drew)
    have hf2 : Frm (fun k => k = rb) w (w.drew.setCells rb 1 ((List.range 19).map (fun j => Value.string (f (0 + j))))) := Frm.setCells _ _ (Frm.refl _ w).drew (.inl rfl)
    clear KEY
    generalize World.setCells w.drew rb 1 _ = W2 at h2 l0 l20 lf0 lf20 HK2 hf2 ⊢
    simp only [if_neg (show ¬ (1 ≤ 0 ∧ 0 < 1 + 19) by omega)] at l0
    go_wp2
    refine bodyPost_end (results_none rfl _ _ _) rfl ?_
    exact ⟨⟨_, rfl⟩, by simpa [hn20] using HK2.out, (hf2.put 0 _).put 20 _⟩
  · have hm1 : ¬ (0 : Int) < m := by omega
    have hm2 : ¬ m < (0 : Int) := by omega
    have hn0 : (0 : Int) < (n : Int) := by omega
    clear hm hnz
    go_enter Try.func20, Try.ntmps20
    go_wp2
    go_still_tail 8, (by kernel_rfl)
    change wpList _ _ _ _ _ w.drew
    have h2 := (H.out.drew).sets 1 19 (fun j => f (0 + j)) (by omega)
    have l0 := h2.text 0 (by omega)
    have l20 := h2.count
    have lf0 := h2.frozen 0
    have lf20 := h2.frozen 20
    refine wpList_copyS rfl _ _ rfl rb 1 19 19 ⟨rb, 0, none⟩ 20 20 ((List.range 19).map (fun j => Value.string (f (0 + j)))) rfl rfl (by rw [List.length_map, List.length_range]; rfl) (H.out.drew.reads 0 19 (by omega)) (fun j hj => H.out.drew.there _ (by simp at hj; omega)) (fun j hj => H.out.drew.frozen _) (range_one 19 (fun j => f (0 + j))) ?_
    have HK2 := Lib.hid (KEY.out w.drew H.out.drew)
    have hf2 : Frm (fun k => k = rb) w (w.drew.setCells rb 1 ((List.range 19).map (fun j => Value.string (f (0 + j))))) := Frm.setCells _ _ (Frm.refl _ w).drew (.inl rfl)
    clear KEY
    generalize World.setCells w.drew rb 1 _ = W2 at h2 l0 l20 lf0 lf20 HK2 hf2 ⊢
    simp only [if_neg (show ¬ (1 ≤ 0 ∧ 0 < 1 + 19) by omega)] at l0
    go_wp2
    refine bodyPost_end (results_none rfl _ _ _) rfl ?_
    exact ⟨⟨_, rfl⟩, by simpa [hn20] using HK2.out, (hf2.put 0 _).put 20 _⟩

set_option maxHeartbeats 2000000 in
theorem kill_add (h : Rg w rb f n) (s : Bs) (hs : s ≠ ⟨#[]⟩) (m : Int) (hn : 0 < n) (hm : 0 < m) (hb : (f 0).size + s.size ≤ 1000000) :
    Calls Try.prog 20 #[.pointer (some ⟨rb, 0, none⟩), .string s, .int .i64 m] w fun e w' => (∃ v, e = .returned v) ∧ Rg w' rb (fun j => if j = 0 then f 0 ++ s else f j) n ∧ Frm (fun k => k = rb) w w' := by
  have hse : s.toList.isEmpty = false := by
    cases hh : s.toList.isEmpty with
    | false => rfl
    | true =>
      exfalso
      rw [List.isEmpty_iff, Go.ByteArray.toList_eq] at hh
      exact hs (ByteArray.ext (by simpa using hh))
  have c20 := h.count
  have c0 := h.text 0 (by omega)
  have cf0 := h.frozen 0
  have hn0 : (0 : Int) < (n : Int) := by omega
  have e0 : ¬ (f 0).size + s.size > 9223372036854775807 := by omega
  have HK := Lib.hid (h.drew.put 0 (f 0 ++ s) (by omega))
  clear h
  go_enter Try.func20, Try.ntmps20
  go_wp2
  go_still_tail 10, (by kernel_rfl)
  change wpList _ _ _ _ _ w.drew
  go_wp2
  refine bodyPost_end (results_none rfl _ _ _) rfl ?_
  exact ⟨⟨_, rfl⟩, HK.out, ((Frm.refl _ w).drew).put 0 _⟩

set_option maxHeartbeats 2000000 in
theorem kill_pre (h : Rg w rb f n) (s : Bs) (hs : s ≠ ⟨#[]⟩) (m : Int) (hn : 0 < n) (hm : m < 0) (hb : (f 0).size + s.size ≤ 1000000) :
    Calls Try.prog 20 #[.pointer (some ⟨rb, 0, none⟩), .string s, .int .i64 m] w fun e w' => (∃ v, e = .returned v) ∧ Rg w' rb (fun j => if j = 0 then s ++ f 0 else f j) n ∧ Frm (fun k => k = rb) w w' := by
  have hse : s.toList.isEmpty = false := by
    cases hh : s.toList.isEmpty with
    | false => rfl
    | true =>
      exfalso
      rw [List.isEmpty_iff, Go.ByteArray.toList_eq] at hh
      exact hs (ByteArray.ext (by simpa using hh))
  have c20 := h.count
  have c0 := h.text 0 (by omega)
  have cf0 := h.frozen 0
  have hn0 : (0 : Int) < (n : Int) := by omega
  have hm1 : ¬ (0 : Int) < m := by omega
  have e0 : ¬ s.size + (f 0).size > 9223372036854775807 := by omega
  have HK := Lib.hid (h.drew.put 0 (s ++ f 0) (by omega))
  clear h
  go_enter Try.func20, Try.ntmps20
  go_wp2
  go_still_tail 11, (by kernel_rfl)
  change wpList _ _ _ _ _ w.drew
  go_wp2
  refine bodyPost_end (results_none rfl _ _ _) rfl ?_
  exact ⟨⟨_, rfl⟩, HK.out, ((Frm.refl _ w).drew).put 0 _⟩

set_option maxHeartbeats 1000000 in
theorem turn_none (h : Rg w rb f 0) :
    Calls Try.prog 21 #[.pointer (some ⟨rb, 0, none⟩)] w fun e w' => e = .returned (.tuple #[.string (f 0), .bool false]) ∧ Below w.heap.size w w' := by
  have c20 := h.count
  have hT := top_any rb 0 f w h (f 0) rfl
  simp only [Nat.lt_irrefl, decide_false] at hT
  have HT := Lib.hid hT
  clear hT
  go_enter Try.func21, Try.ntmps21
  go_wp2_with (go_at_call 22; refine HT.out.mono ?_; rintro e w1 ⟨rfl, hb⟩)
  go_ret2
  exact ⟨rfl, hb⟩

/-- The texts behind a turn. -/
def turned (n : Nat) (f : Nat → Bs) (j : Nat) : Bs := if j + 1 < n then f (j + 1) else if j + 1 = n then f 0 else f j
set_option maxHeartbeats 2000000 in
theorem turn_some (h : Rg w rb f n) (hn : 0 < n) :
    Calls Try.prog 21 #[.pointer (some ⟨rb, 0, none⟩)] w fun e w' => e = .returned (.tuple #[.string (turned n f 0), .bool true]) ∧ Rg w' rb (turned n f) n ∧ Frm (fun k => k = rb) w w' := by
  have c20 := h.count
  have c0 := h.text 0 (by omega)
  have hle := h.le
  have hn0 : (0 : Int) < (n : Int) := by omega
  have hn1 : (1 : Int) ≤ (n : Int) := by omega
  have hn2 : (n : Int) ≤ 20 := by omega
  obtain ⟨m, hm⟩ : ∃ m, n - 1 = m := ⟨_, rfl⟩
  have hq1 : IntKind.i64.wrap ((n : Int) - 1) = (m : Int) := by rw [IntWalk.i64_in] <;> omega
  have hq2 : (0 : Int) ≤ (m : Int) := by omega
  have hq3 : (m : Int) < 20 := by omega
  have H := Lib.hid h
  have HM := Lib.hid hm
  have hm20 : m < 20 := by omega
  clear h hm
  go_enter Try.func21, Try.ntmps21
  go_wp2
  go_still_tail 12, (by kernel_rfl)
  change wpList _ _ _ _ _ w.drew
  refine wpList_copyS rfl _ _ rfl rb 0 20 20 ⟨rb, 1, none⟩ (n - 1) 19 ((List.range (n - 1)).map (fun j => Value.string (f (1 + j)))) rfl rfl (by rw [List.length_map, List.length_range]; exact (Nat.min_eq_left (by omega)).symm) (H.out.drew.reads 1 (n - 1) (by omega)) (fun j hj => H.out.drew.there _ (by simp at hj; omega)) (fun j hj => H.out.drew.frozen _) (range_one (n - 1) (fun j => f (1 + j))) ?_
  have h2 := (H.out.drew).sets 0 (n - 1) (fun j => f (1 + j)) (by omega)
  have hf2 : Frm (fun k => k = rb) w (w.drew.setCells rb 0 ((List.range (n - 1)).map (fun j => Value.string (f (1 + j))))) := Frm.setCells _ _ (Frm.refl _ w).drew (.inl rfl)
  have d20 := h2.count
  have dm := h2.text m hm20
  have dfm := h2.frozen m
  have h3 : Rg ((w.drew.setCells rb 0 ((List.range (n - 1)).map (fun j => Value.string (f (1 + j))))).drew.setCell ⟨rb, m, none⟩ (.string (f 0))) rb (turned n f) n := by
    refine Rg.congr ((h2.drew).put m (f 0) hm20) (fun j hj => ?_)
    have hmm := HM.out
    unfold turned
    by_cases c1 : j + 1 < n
    · rw [if_neg (by omega), if_pos (by omega), if_pos c1]
      congr 1
      omega
    · by_cases c2 : j + 1 = n
      · rw [if_pos (by omega), if_neg c1, if_pos c2]
      · rw [if_neg (by omega), if_neg (by omega), if_neg c1, if_neg c2]
  have H3 := Lib.hid h3
  clear h2 h3
  generalize World.setCells w.drew rb 0 _ = W2 at d20 dm dfm H3 hf2 ⊢
  have hT := top_any rb n (turned n f) _ H3.out (turned n f 0) rfl
  rw [show decide (0 < n) = true by simpa using hn] at hT
  have HT := Lib.hid hT
  clear hT
  go_wp2
  go_still_tail 10, (by kernel_rfl)
  change wpList _ _ _ _ _ W2.drew
  go_wp2_with (go_at_call 22; refine HT.out.mono ?_; rintro e w1 ⟨rfl, hb⟩)
  go_ret2
  exact ⟨rfl, H3.out.below hb, ((hf2.drew).put m _).trans (Frm.of_below (p := fun _ => False) hb) (fun _ _ h => h.elim)⟩
end
end Go.Proofs.Ytgdamapocomhkaa

/- UndoPlays: an act that redoes. Condition: the lists and the journal agree ahead of it. -/
import Derived.Test.YtgdamapocomhkaaUnWa
namespace Go.Proofs.Ytgdamapocomhkaa
open Go.RowKit Go.Shelf
set_option linter.unusedVariables false

set_option maxRecDepth 100000 in
set_option maxHeartbeats 40000000 in
theorem plays_redo
    (kv : Nat → Int) (sv : Nat → St) (M len cap : Nat) (w : World) (hm1 : 1 ≤ M) (hm2 : M ≤ 60) (hl40 : len ≤ 40) (jb : Nat) (hjw : w.heap.size ≤ jb)
    (u6 u7 : Value) (i : Nat) (dl ul : List St) (js : Value) (hi : i ≤ len) (hlt : i < len) (b off : Nat) (z1 : (sv i).del.size ≤ 100) (z2 : (sv i).ins.size ≤ 100) (hbl : b < w.heap.size) (hx : (i : Int) < len)
    (J K : Act → World → Prop) (Q : Exit → Act → World → Prop) (hK : ∀ a' w', Met J a' w' → K a' w') (B : Nat)
    (c2 c3 c17 c18 c19 c20 c21 c22 c23 c24 c25 c26 c27 c28 c29 c30 c31 c32 c33 c34 c35 c36 c37 c38 c39 c40 c41 : Value) (u4 u10 u11 u12 u13 u14 u15 u16 u42 u43 u44 u45 u46 u47 u48 u49 u50 u51 u52 u53 u54 u55 u56 u57 u58 u59 u60 u61 u62 u63 u64 u65 u66 u67 u68 u69 u70 u71 u72 u73 u74 u75 u76 u77 u78 u79 u80 u81 u82 u83 u84 u85 u86 u87 u88 u89 u90 u91 u92 u93 u94 u95 u96 u97 u98 u99 u100 u101 u102 u103 u104 u105 u106 u107 u108 u109 u110 u111 u112 u113 u114 u115 u116 u117 u118 u119 u120 u121 u122 u123 u124 u125 u126 u127 u128 u129 u130 u131 u132 u133 u134 u135 u136 u137 u138 u139 u140 u141 u142 u143 u144 u145 u146 u147 u148 u149 u150 u151 u152 u153 u154 u155 u156 u157 u158 u159 u160 u161 u162 u163 u164 u165 u166 u167 u168 u169 u170 u171 u172 u173 u174 u175 u176 u177 u178 u179 u180 u181 u182 u183 u184 u185 u186 u187 u188 u189 u190 u191 u192 u193 u194 u195 u196 u197 u198 u199 u200 u201 u202 u203 u204 u205 u206 u207 u208 u209 u210 u211 u212 u213 u214 u215 u216 u217 : Value)
    (hJ : ∀ a' w', (∃ u4 u6 u7 u10 u11 u12 u13 u14 u15 u16 u42 u43 u44 u45 u46 u47 u48 u49 u50 u51 u52 u53 u54 u55 u56 u57 u58 u59 u60 u61 u62 u63 u64 u65 u66 u67 u68 u69 u70 u71 u72 u73 u74 u75 u76 u77 u78 u79 u80 u81 u82 u83 u84 u85 u86 u87 u88 u89 u90 u91 u92 u93 u94 u95 u96 u97 u98 u99 u100 u101 u102 u103 u104 u105 u106 u107 u108 u109 u110 u111 u112 u113 u114 u115 u116 u117 u118 u119 u120 u121 u122 u123 u124 u125 u126 u127 u128 u129 u130 u131 u132 u133 u134 u135 u136 u137 u138 u139 u140 u141 u142 u143 u144 u145 u146 u147 u148 u149 u150 u151 u152 u153 u154 u155 u156 u157 u158 u159 u160 u161 u162 u163 u164 u165 u166 u167 u168 u169 u170 u171 u172 u173 u174 u175 u176 u177 u178 u179 u180 u181 u182 u183 u184 u185 u186 u187 u188 u189 u190 u191 u192 u193 u194 u195 u196 u197 u198 u199 u200 u201 u202 u203 u204 u205 u206 u207 u208 u209 u210 u211 u212 u213 u214 u215 u216 u217 : Value, RelQ w jb M i u6 u7 w' ∧ a' = ⟨#[.int .i64 (M : Int), .slice (some ⟨b, off, none⟩) len cap, c2, c3, u4, .pointer (some ⟨jb, 0, none⟩), u6, u7, .int .i64 (i : Int), .pointer (some ⟨B, 0, none⟩), u10, u11, u12, u13, u14, u15, u16, c17, c18, c19, c20, c21, c22, c23, c24, c25, c26, c27, c28, c29, c30, c31, c32, c33, c34, c35, c36, c37, c38, c39, c40, c41, u42, u43, u44, u45, u46, u47, u48, u49, u50, u51, u52, u53, u54, u55, u56, u57, u58, u59, u60, u61, u62, u63, u64, u65, u66, u67, u68, u69, u70, u71, u72, u73, u74, u75, u76, u77, u78, u79, u80, u81, u82, u83, u84, u85, u86, u87, u88, u89, u90, u91, u92, u93, u94, u95, u96, u97, u98, u99, u100, u101, u102, u103, u104, u105, u106, u107, u108, u109, u110, u111, u112, u113, u114, u115, u116, u117, u118, u119, u120, u121, u122, u123, u124, u125, u126, u127, u128, u129, u130, u131, u132, u133, u134, u135, u136, u137, u138, u139, u140, u141, u142, u143, u144, u145, u146, u147, u148, u149, u150, u151, u152, u153, u154, u155, u156, u157, u158, u159, u160, u161, u162, u163, u164, u165, u166, u167, u168, u169, u170, u171, u172, u173, u174, u175, u176, u177, u178, u179, u180, u181, u182, u183, u184, u185, u186, u187, u188, u189, u190, u191, u192, u193, u194, u195, u196, u197, u198, u199, u200, u201, u202, u203, u204, u205, u206, u207, u208, u209, u210, u211, u212, u213, u214, u215, u216, u217], []⟩) → J a' w')
    (hBj : jb < B) (hBw : w.heap.size ≤ B) (HBS : RowKit.Hid (∀ (k : Nat), js.ownBlock = some k → k < B)) (HB6 : RowKit.Hid (∀ (k : Nat), u6.ownBlock = some k → k < B)) (W : World) (hpa : Below w.heap.size w W) (HPA : RowKit.Hid (PInv w jb M i dl ul js u6 u7 W))
    (HBB : RowKit.Hid (Blk W B #[.int .i64 (sv i).pos, .string (sv i).del, .string (sv i).ins, .int .i64 (sv i).ahead, .int .i64 (sv i).behind] 31)) (HRR : RowKit.Hid (ActRow W b off len kv sv)) (e3 : ¬ kv i = 3) (e4 : kv i = 4) :
    Code.wp Try.prog playsBlk (Exit.then K Q) ⟨#[.int .i64 (M : Int), .slice (some ⟨b, off, none⟩) len cap, c2, c3, u4, .pointer (some ⟨jb, 0, none⟩), u6, u7, .int .i64 (i : Int), .pointer (some ⟨B, 0, none⟩), u10, u11, u12, u13, u14, u15, u16, c17, c18, c19, c20, c21, c22, c23, c24, c25, c26, c27, c28, c29, c30, c31, c32, c33, c34, c35, c36, c37, c38, c39, c40, c41, u42, u43, u44, u45, u46, u47, u48, u49, u50, u51, u52, u53, u54, u55, u56, .int .i64 (kv i), u58, u59, u60, u61, u62, u63, u64, u65, u66, u67, u68, u69, u70, u71, u72, u73, u74, u75, u76, u77, u78, u79, u80, u81, u82, u83, u84, u85, u86, u87, u88, u89, u90, u91, u92, u93, u94, u95, u96, u97, u98, u99, u100, u101, u102, u103, u104, u105, u106, u107, u108, u109, u110, u111, u112, u113, u114, u115, u116, u117, u118, u119, u120, u121, u122, u123, u124, u125, u126, u127, u128, u129, u130, u131, u132, u133, u134, u135, u136, u137, u138, u139, u140, u141, u142, u143, u144, u145, u146, u147, u148, u149, u150, u151, u152, u153, u154, u155, u156, u157, u158, u159, u160, u161, u162, u163, u164, u165, u166, u167, u168, u169, u170, u171, u172, u173, u174, u175, u176, u177, u178, u179, u180, u181, u182, u183, u184, u185, u186, u187, u188, u189, u190, u191, u192, u193, u194, u195, u196, u197, u198, u199, u200, u201, u202, u203, u204, u205, u206, u207, u208, u209, u210, u211, u212, u213, u214, u215, u216, u217], []⟩ W := by
              conv => arg 2; whnf
              cases hul : ul with
              | nil =>
                subst hul
                have hJ0 : Jn W jb M js dl dl.length := by have := HPA.out.jn; rw [List.append_nil] at this; exact this
                obtain ⟨a7, c7, hv7, _⟩ := HPA.out.u.rowS.form
                simp only [List.length_nil] at hv7
                subst hv7
                have hLN : dl.length ≤ 1000000 := by have := HPA.out.cap; omega
                go_wp2_with fail
                refine (redo_n jb M js dl W hJ0 hLN).mono ?_
                rintro e w5 ⟨rfl, hb5⟩
                go_wp2
                go_quiet (fail)
                go_wp2
                go_meet
                case rel => exact ⟨dl, [], js, ((HPA.out.succ.ext hb5).ext (below_drewN ((Below.refl _ _).alloc (Nat.le_refl _) _) _))⟩
              | cons y ul2 =>
                subst hul
                obtain ⟨b7, o7, c7, hv7, hlc7, hbl7, hs7, htl1, htl2⟩ := HPA.out.u.tail
                have hyx : (dl ++ y :: ul2)[dl.length]?.getD St.zero = y := by rw [List.getElem?_append_right (Nat.le_refl _)]; simp
                have HLN : (dl ++ y :: ul2).length ≤ 1000000 := by have := HPA.out.cap; simp at this ⊢; omega
                obtain ⟨a6, c6, hv6, _⟩ := HPA.out.d.rowS.form
                have hbj7 : b7 ≠ jb ∧ js.ownBlock ≠ some b7 := by
                  rcases HPA.out.u with ⟨_, h⟩ | ⟨b, off, cap, h1, h2, h3, h4, h5, h6⟩
                  · cases h
                  · rw [hv7] at h1; cases h1; exact ⟨h3, h4⟩
                go_wp2_with fail
                refine (redo_y jb M js _ W dl.length HPA.out.jn (by simp) HLN y hyx).mono ?_
                rintro e w5 ⟨rfl, hJ5, F5⟩
                have hJ5B := hJ5.obj.lt
                have rv6 := HPA.out.d.frm F5 (fun k hk => .inl hk) (fun k hk => .inl hk)
                have rv7 := HPA.out.u.frm F5 (fun k hk => .inl hk) (fun k hk => .inl hk)
                have hB5 : Below w.heap.size w w5 := hpa.trans (F5.below hpa.size (fun k hk => by omega))
                have hs5 := hs7.frm F5 hbl7 hbj7.1
                have hbl5 : b7 < w5.heap.size := Nat.lt_of_lt_of_le hbl7 F5.size
                have RV6 := Lib.hid rv6
                have RV7 := Lib.hid rv7
                have HJ5 := Lib.hid hJ5
                clear rv6 rv7 hJ5 htl1 htl2
                subst hv7
                obtain ⟨p0, p1, p2, p3, p4⟩ := hs5
                have hq1 : (0 : Int) < (ul2.length : Int) + 1 := by omega
                go_wp2
                go_quiet (fail)
                have h56 : Below w5.heap.size w5 ((w5.alloc (.cells #[.int .i64 y.pos, .string y.del, .string y.ins, .int .i64 y.ahead, .int .i64 y.behind] 31)).drewN nq) := below_drewN ((Below.refl _ _).alloc (Nat.le_refl _) _) _
                have bX : Blk ((w5.alloc (.cells #[.int .i64 y.pos, .string y.del, .string y.ins, .int .i64 y.ahead, .int .i64 y.behind] 31)).drewN nq) w5.heap.size #[.int .i64 y.pos, .string y.del, .string y.ins, .int .i64 y.ahead, .int .i64 y.behind] 31 := (Blk.new w5 _ _).drewN nq
                generalize World.drewN _ _ = W6 at h56 bX ⊢
                generalize hB6 : w5.heap.size = B6 at *
                have hrs6 : ∀ X, Below W6.heap.size W6 X → RowS X u6 dl := fun X hX => (RV6.out.rowS.below (by rw [hB6]; exact h56)).below hX
                subst hv6
                have RS6 := Lib.hid hrs6
                have hcu : 0 + dl.length ≤ 1000000 := by have := HPA.out.cap; omega
                obtain ⟨i0, hi0, hz0, hz1, hz2⟩ := info_parts infoT
                clear hrs6 p0 p1 p2 p3 p4
                go_wp2
                have kp : ∀ X, Below W6.heap.size W6 X → (X.cell? ⟨B6, 0, none⟩ = some (.int .i64 y.pos) ∧ X.cell? ⟨B6, 1, none⟩ = some (.string y.del) ∧ X.cell? ⟨B6, 2, none⟩ = some (.string y.ins) ∧ X.cell? ⟨B6, 3, none⟩ = some (.int .i64 y.ahead) ∧ X.cell? ⟨B6, 4, none⟩ = some (.int .i64 y.behind)) := fun X hX => by
                  have ob := bX.below hX
                  exact ⟨ob.cell 0, ob.cell 1, ob.cell 2, ob.cell 3, ob.cell 4⟩
                go_region_held3 (fun X => X.cell? ⟨B6, 0, none⟩ = some (.int .i64 y.pos) ∧ X.cell? ⟨B6, 1, none⟩ = some (.string y.del) ∧ X.cell? ⟨B6, 2, none⟩ = some (.string y.ins) ∧ X.cell? ⟨B6, 3, none⟩ = some (.int .i64 y.ahead) ∧ X.cell? ⟨B6, 4, none⟩ = some (.int .i64 y.behind))
                  ((refine kp _ ?_; (repeat (with_reducible (first | assumption | refine Below.drew ?_ | refine Below.alloc ?_ (by first | exact hwA.size | (simp <;> omega)) _ | exact Below.refl _ _))); done))
                  (first
                    | (refine step_app_any (by rfl) _ _ (by rfl) W6.heap.size i0 hi0 hz0 hz1 hz2 W6.heap.size 0 0 [] (by rfl) (by first | exact owns_none W6 | exact (owns_none W6).alloc _) _ dl (by rfl) (RS6.out _ (by (repeat (with_reducible (first | assumption | refine Below.drew ?_ | refine Below.alloc ?_ (by simp <;> omega) _ | exact Below.refl _ _))))) hcu (by simp <;> omega) ?_; intro vA wA hownA hgrowA; have hwA : Below W6.heap.size W6 wA := Below.grown (by (repeat (with_reducible (first | assumption | refine Below.drew ?_ | refine Below.alloc ?_ (by simp <;> omega) _ | exact Below.refl _ _)))) hgrowA (by simp <;> omega) (fun k h => by cases h; omega))
                    | (refine step_app_any (by rfl) _ _ (by rfl) W6.heap.size i0 hi0 hz0 hz1 hz2 (W6.heap.size + 1) 0 0 [] (by rfl) (by exact owns_none1 W6 _) _ dl (by rfl) (RS6.out _ (by (repeat (with_reducible (first | assumption | refine Below.drew ?_ | refine Below.alloc ?_ (by simp <;> omega) _ | exact Below.refl _ _))))) hcu (by simp <;> omega) ?_; intro vA wA hownA hgrowA; have hwA : Below W6.heap.size W6 wA := Below.grown (by (repeat (with_reducible (first | assumption | refine Below.drew ?_ | refine Below.alloc ?_ (by simp <;> omega) _ | exact Below.refl _ _)))) hgrowA (by simp <;> omega) (fun k h => by cases h; omega))
                    | (refine step_append_lies _ (by rfl) _ _ _ (by rfl) W6.heap.size 31 i0 _ 5 56 Try.underlying27 hi0 hz0 hz1 hz2 rfl (by omega) vA (0 + dl.length) ([] ++ cellsOf dl) (by rfl) (by exact hownA.alloc _) ⟨wA.heap.size, 0, none⟩ 1 1 y.cells (by rfl) (by rfl) (by exact World.news_of_block (cs := #[.int .i64 y.pos, .string y.del, .string y.ins, .int .i64 y.ahead, .int .i64 y.behind]) (t := 31) (fr := (0, 0)) (heap_alloc_new wA _)) (by simp [St.cells, Value.oneCell']) (by omega) (by unfold maxLen; omega) (by omega) (by first | exact hwA.size | (have := hwA.size; simp; omega)) _ rfl ?_; intro g2 cap2 w7 hown7 hgrow7 hat hlt; have hw7 : Below W6.heap.size W6 w7 := Below.grown (by (repeat (with_reducible (first | assumption | refine Below.drew ?_ | refine Below.alloc ?_ (by first | exact hwA.size | (simp <;> omega)) _ | exact Below.refl _ _)))) hgrow7 (by first | exact hwA.size | (have := hwA.size; simp; omega)) (fun k h => (hownA.lt k h).1))
                    | (refine step_append_lies _ (by rfl) _ _ _ (by rfl) W6.heap.size 31 i0 _ 5 56 Try.underlying27 hi0 hz0 hz1 hz2 rfl (by omega) vA (0 + dl.length) ([] ++ cellsOf dl) (by rfl) (by exact hownA) ⟨W6.heap.size + 1, 0, none⟩ 1 1 y.cells (by rfl) (by rfl) (by exact World.news_of_block (cs := #[.int .i64 y.pos, .string y.del, .string y.ins, .int .i64 y.ahead, .int .i64 y.behind]) (t := 31) (fr := (0, 0)) ((hgrowA.block _ (by simp) (by simp)).trans (Blk.new1 W6 _ _ _))) (by simp [St.cells, Value.oneCell']) (by omega) (by unfold maxLen; omega) (by omega) (by first | exact hwA.size | (have := hwA.size; simp; omega)) _ rfl ?_; intro g2 cap2 w7 hown7 hgrow7 hat hlt; have hw7 : Below W6.heap.size W6 w7 := Below.grown (by (repeat (with_reducible (first | assumption | refine Below.drew ?_ | refine Below.alloc ?_ (by first | exact hwA.size | (simp <;> omega)) _ | exact Below.refl _ _)))) hgrow7 (by first | exact hwA.size | (have := hwA.size; simp; omega)) (fun k h => (hownA.lt k h).1))
                    | (refine step_append_lies _ (by rfl) _ _ _ (by rfl) W6.heap.size 31 i0 _ 5 56 Try.underlying27 hi0 hz0 hz1 hz2 rfl (by omega) vA (0 + dl.length) ([] ++ cellsOf dl) (by rfl) (by exact hownA) ⟨W6.heap.size, 0, none⟩ 1 1 y.cells (by rfl) (by rfl) (by exact World.news_of_block (cs := #[.int .i64 y.pos, .string y.del, .string y.ins, .int .i64 y.ahead, .int .i64 y.behind]) (t := 31) (fr := (0, 0)) ((hgrowA.block _ (by simp <;> omega) (by simp)).trans ((Blk.new W6 _ _).alloc _))) (by simp [St.cells, Value.oneCell']) (by omega) (by unfold maxLen; omega) (by omega) (by first | exact hwA.size | (have := hwA.size; simp; omega)) _ rfl ?_; intro g2 cap2 w7 hown7 hgrow7 hat hlt; have hw7 : Below W6.heap.size W6 w7 := Below.grown (by (repeat (with_reducible (first | assumption | refine Below.drew ?_ | refine Below.alloc ?_ (by first | exact hwA.size | (simp <;> omega)) _ | exact Below.refl _ _)))) hgrow7 (by first | exact hwA.size | (have := hwA.size; simp; omega)) (fun k h => (hownA.lt k h).1)))
                all_goals
                  skip
                  have hR7 := hown7.drew
                  have HOWN7 := Lib.hid hown7
                  have h57 : Below w5.heap.size w5 w7 := by
                    rw [hB6]
                    exact h56.trans (hw7.mono (by have := h56.size; omega))
                  have rel : ∀ v7, RowR w7 jb js v7 ul2 → RelQ w jb M i (.slice (some ⟨g2, 0, none⟩) (dl.length + 1) cap2) v7 w7 := by
                    intro v7 hv7
                    have hPs := HPA.out.succ
                    have hjs := HPA.out.jn.row.lt
                    have hsz5 := F5.size
                    have hsz6 := h56.size
                    have heq : (dl ++ [y]) ++ ul2 = dl ++ y :: ul2 := by simp
                    have ho := HOWN7.out
                    rw [List.nil_append, Nat.zero_add] at ho
                    refine ⟨dl ++ [y], ul2, js, ⟨?_, ?_, hv7, ?_, ?_, ?_, ?_, hPs.own⟩⟩
                    · rw [heq]; simpa using jn_below HJ5.out h57
                    · exact RowR.of_owns (base := W6.heap.size) (n := dl.length + 1) (by rw [cellsOf_append, cellsOf_one]; exact ho) (by simp) (by omega) (fun k hk => by have := (hjs k hk).1; omega)
                    · have := hPs.len; simp at this ⊢; omega
                    · have := hPs.cap; simp at this ⊢; omega
                    · intro z hz; rw [heq] at hz; exact hPs.small z hz
                    · exact hB5.trans (h57.mono hB5.size)
                  have rv := RV7.out.frm (Frm.of_below (p := fun _ => False) h57) (fun _ h => h.elim) (fun k hk => .inl hk)
                  obtain ⟨bb, oo, cc, hvv, _, _, _, t1, t2⟩ := rv.tail
                  obtain ⟨⟨rfl, rfl⟩, rfl⟩ : (b7 = bb ∧ o7 = oo) ∧ c7 = cc := by simpa using hvv
                  have REL := Lib.hid rel
                  have T1 := Lib.hid t1
                  have T2 := Lib.hid t2
                  have hq7 : (1 : Int) ≤ (ul2.length : Int) + 1 := by omega
                  clear rel t1 t2 rv hR7 hown7 hgrow7 hgrowA hownA
                  by_cases hc7 : 1 < c7
                  · have hc8 : 0 < c7 - 1 := by omega
                    go_wp2
                    go_meet
                    case rel => exact REL.out _ (T1.out hc7)
                  · have hc9 : c7 = 1 := by omega
                    have hc8 : ¬ 0 < c7 - 1 := by omega
                    go_wp2
                    go_meet
                    case rel => exact REL.out _ (by have h9 := T2.out hc9 o7; rw [hc9] at h9; exact h9)
end Go.Proofs.Ytgdamapocomhkaa

/- UndoPlays: an act that pushes. Condition: the lists and the journal agree ahead of it. -/
import Derived.Test.YtgdamapocomhkaaUnWa
namespace Go.Proofs.Ytgdamapocomhkaa
open Go.RowKit Go.Shelf
set_option linter.unusedVariables false

set_option maxRecDepth 100000 in
set_option maxHeartbeats 40000000 in
theorem plays_push
    (kv : Nat → Int) (sv : Nat → St) (M len cap : Nat) (w : World) (hm1 : 1 ≤ M) (hm2 : M ≤ 60) (hl40 : len ≤ 40) (jb : Nat) (hjw : w.heap.size ≤ jb)
    (u6 u7 : Value) (i : Nat) (dl ul : List St) (js : Value) (hi : i ≤ len) (hlt : i < len) (b off : Nat) (z1 : (sv i).del.size ≤ 100) (z2 : (sv i).ins.size ≤ 100) (hbl : b < w.heap.size) (hx : (i : Int) < len)
    (J K : Act → World → Prop) (Q : Exit → Act → World → Prop) (hK : ∀ a' w', Met J a' w' → K a' w') (B : Nat)
    (c2 c3 c17 c18 c19 c20 c21 c22 c23 c24 c25 c26 c27 c28 c29 c30 c31 c32 c33 c34 c35 c36 c37 c38 c39 c40 c41 : Value) (u4 u10 u11 u12 u13 u14 u15 u16 u42 u43 u44 u45 u46 u47 u48 u49 u50 u51 u52 u53 u54 u55 u56 u57 u58 u59 u60 u61 u62 u63 u64 u65 u66 u67 u68 u69 u70 u71 u72 u73 u74 u75 u76 u77 u78 u79 u80 u81 u82 u83 u84 u85 u86 u87 u88 u89 u90 u91 u92 u93 u94 u95 u96 u97 u98 u99 u100 u101 u102 u103 u104 u105 u106 u107 u108 u109 u110 u111 u112 u113 u114 u115 u116 u117 u118 u119 u120 u121 u122 u123 u124 u125 u126 u127 u128 u129 u130 u131 u132 u133 u134 u135 u136 u137 u138 u139 u140 u141 u142 u143 u144 u145 u146 u147 u148 u149 u150 u151 u152 u153 u154 u155 u156 u157 u158 u159 u160 u161 u162 u163 u164 u165 u166 u167 u168 u169 u170 u171 u172 u173 u174 u175 u176 u177 u178 u179 u180 u181 u182 u183 u184 u185 u186 u187 u188 u189 u190 u191 u192 u193 u194 u195 u196 u197 u198 u199 u200 u201 u202 u203 u204 u205 u206 u207 u208 u209 u210 u211 u212 u213 u214 u215 u216 u217 : Value)
    (hJ : ∀ a' w', (∃ u4 u6 u7 u10 u11 u12 u13 u14 u15 u16 u42 u43 u44 u45 u46 u47 u48 u49 u50 u51 u52 u53 u54 u55 u56 u57 u58 u59 u60 u61 u62 u63 u64 u65 u66 u67 u68 u69 u70 u71 u72 u73 u74 u75 u76 u77 u78 u79 u80 u81 u82 u83 u84 u85 u86 u87 u88 u89 u90 u91 u92 u93 u94 u95 u96 u97 u98 u99 u100 u101 u102 u103 u104 u105 u106 u107 u108 u109 u110 u111 u112 u113 u114 u115 u116 u117 u118 u119 u120 u121 u122 u123 u124 u125 u126 u127 u128 u129 u130 u131 u132 u133 u134 u135 u136 u137 u138 u139 u140 u141 u142 u143 u144 u145 u146 u147 u148 u149 u150 u151 u152 u153 u154 u155 u156 u157 u158 u159 u160 u161 u162 u163 u164 u165 u166 u167 u168 u169 u170 u171 u172 u173 u174 u175 u176 u177 u178 u179 u180 u181 u182 u183 u184 u185 u186 u187 u188 u189 u190 u191 u192 u193 u194 u195 u196 u197 u198 u199 u200 u201 u202 u203 u204 u205 u206 u207 u208 u209 u210 u211 u212 u213 u214 u215 u216 u217 : Value, RelQ w jb M i u6 u7 w' ∧ a' = ⟨#[.int .i64 (M : Int), .slice (some ⟨b, off, none⟩) len cap, c2, c3, u4, .pointer (some ⟨jb, 0, none⟩), u6, u7, .int .i64 (i : Int), .pointer (some ⟨B, 0, none⟩), u10, u11, u12, u13, u14, u15, u16, c17, c18, c19, c20, c21, c22, c23, c24, c25, c26, c27, c28, c29, c30, c31, c32, c33, c34, c35, c36, c37, c38, c39, c40, c41, u42, u43, u44, u45, u46, u47, u48, u49, u50, u51, u52, u53, u54, u55, u56, u57, u58, u59, u60, u61, u62, u63, u64, u65, u66, u67, u68, u69, u70, u71, u72, u73, u74, u75, u76, u77, u78, u79, u80, u81, u82, u83, u84, u85, u86, u87, u88, u89, u90, u91, u92, u93, u94, u95, u96, u97, u98, u99, u100, u101, u102, u103, u104, u105, u106, u107, u108, u109, u110, u111, u112, u113, u114, u115, u116, u117, u118, u119, u120, u121, u122, u123, u124, u125, u126, u127, u128, u129, u130, u131, u132, u133, u134, u135, u136, u137, u138, u139, u140, u141, u142, u143, u144, u145, u146, u147, u148, u149, u150, u151, u152, u153, u154, u155, u156, u157, u158, u159, u160, u161, u162, u163, u164, u165, u166, u167, u168, u169, u170, u171, u172, u173, u174, u175, u176, u177, u178, u179, u180, u181, u182, u183, u184, u185, u186, u187, u188, u189, u190, u191, u192, u193, u194, u195, u196, u197, u198, u199, u200, u201, u202, u203, u204, u205, u206, u207, u208, u209, u210, u211, u212, u213, u214, u215, u216, u217], []⟩) → J a' w')
    (hBj : jb < B) (hBw : w.heap.size ≤ B) (HBS : RowKit.Hid (∀ (k : Nat), js.ownBlock = some k → k < B)) (HB6 : RowKit.Hid (∀ (k : Nat), u6.ownBlock = some k → k < B)) (W : World) (hpa : Below w.heap.size w W) (HPA : RowKit.Hid (PInv w jb M i dl ul js u6 u7 W))
    (HBB : RowKit.Hid (Blk W B #[.int .i64 (sv i).pos, .string (sv i).del, .string (sv i).ins, .int .i64 (sv i).ahead, .int .i64 (sv i).behind] 31)) (HRR : RowKit.Hid (ActRow W b off len kv sv)) (e3 : ¬ kv i = 3) (e4 : ¬ kv i = 4) (e012 : kv i = 0 ∨ kv i = 1 ∨ kv i = 2) :
    Code.wp Try.prog playsBlk (Exit.then K Q) ⟨#[.int .i64 (M : Int), .slice (some ⟨b, off, none⟩) len cap, c2, c3, u4, .pointer (some ⟨jb, 0, none⟩), u6, u7, .int .i64 (i : Int), .pointer (some ⟨B, 0, none⟩), u10, u11, u12, u13, u14, u15, u16, c17, c18, c19, c20, c21, c22, c23, c24, c25, c26, c27, c28, c29, c30, c31, c32, c33, c34, c35, c36, c37, c38, c39, c40, c41, u42, u43, u44, u45, u46, u47, u48, u49, u50, u51, u52, u53, u54, u55, u56, .int .i64 (kv i), u58, u59, u60, u61, u62, u63, u64, u65, u66, u67, u68, u69, u70, u71, u72, u73, u74, u75, u76, u77, u78, u79, u80, u81, u82, u83, u84, u85, u86, u87, u88, u89, u90, u91, u92, u93, u94, u95, u96, u97, u98, u99, u100, u101, u102, u103, u104, u105, u106, u107, u108, u109, u110, u111, u112, u113, u114, u115, u116, u117, u118, u119, u120, u121, u122, u123, u124, u125, u126, u127, u128, u129, u130, u131, u132, u133, u134, u135, u136, u137, u138, u139, u140, u141, u142, u143, u144, u145, u146, u147, u148, u149, u150, u151, u152, u153, u154, u155, u156, u157, u158, u159, u160, u161, u162, u163, u164, u165, u166, u167, u168, u169, u170, u171, u172, u173, u174, u175, u176, u177, u178, u179, u180, u181, u182, u183, u184, u185, u186, u187, u188, u189, u190, u191, u192, u193, u194, u195, u196, u197, u198, u199, u200, u201, u202, u203, u204, u205, u206, u207, u208, u209, u210, u211, u212, u213, u214, u215, u216, u217], []⟩ W := by
                conv => arg 2; whnf
                have f3 : (kv i == 3) = false := by simp; omega
                have f4 : (kv i == 4) = false := by simp; omega
                obtain ⟨s', n, hj⟩ : ∃ s' n, (if (kv i == 2) = true then joinedSt (dl ++ ul) dl.length (sv i) else (sv i, dl.length)) = (s', n) := ⟨_, _, rfl⟩
                have HJJ := Lib.hid hj
                have HLM : (dl ++ ul).length ≤ M := by have := HPA.out.cap; simp; omega
                have HE := Lib.hid e012
                clear hj e012
                have y0 := HBB.out.cell 0
                have y1 := HBB.out.cell 1
                have y2 := HBB.out.cell 2
                have y3 := HBB.out.cell 3
                have y4 := HBB.out.cell 4
                simp at y0 y1 y2 y3 y4
                obtain ⟨hbr, hra⟩ := HRR.out
                obtain ⟨g0, _⟩ := hra i hlt
                clear hra hbr
                obtain ⟨a6, c6, hv6, _⟩ := HPA.out.d.rowS.form
                subst hv6
                go_upto_if 58 with fail
                go_cut [58] from 58 to 61 (fun v58 wx => v58 = .bool true ∧ wx = W)
                case first =>
                  rcases HE.out with e0 | e0 | e0
                  · have t0 : (kv i == 0) = true := by simp [e0]
                    clear e0 f3 f4
                    go_wp2
                    go_meet
                    case rel => exact ⟨by simp [*], rfl⟩
                  · have t0 : (kv i == 0) = false := by simp [e0]
                    have t1 : (kv i == 1) = true := by simp [e0]
                    clear e0 f3 f4
                    go_wp2
                    go_meet
                    case rel => exact ⟨by simp [*], rfl⟩
                  · have t0 : (kv i == 0) = false := by simp [e0]
                    have t1 : (kv i == 1) = false := by simp [e0]
                    have t2 : (kv i == 2) = true := by simp [e0]
                    clear e0 f3 f4
                    go_wp2
                    go_meet
                    case rel => exact ⟨by simp [*], rfl⟩
                case rest =>
                  obtain ⟨rfl, hwc⟩ := hcut
                  rw [hwc]
                  clear hwc
                  go_wp2
                  go_still_tail 8, (by kernel_rfl)
                  change wpList _ _ _ _ _ W.drew
                  have hbW : b < W.drew.heap.size := Nat.lt_of_lt_of_le hbl hpa.size
                  have hbf : ¬ foot jb js b := by
                    rintro (h | h)
                    · omega
                    · have := HPA.out.own b h; omega
                  go_upto_region 22 with (go_at_call 9; refine (push_core jb M js (dl ++ ul) W.drew (sv i) dl.length (jn_drew HPA.out.jn) (by omega) hm1 HLM (fun x hx => by have := HPA.out.small x hx; omega) (by omega) (by omega) (kv i == 2) s' n HJJ.out).mono ?_; rintro e w4 ⟨⟨v4, rfl⟩, js', hJ4, F4, own4⟩; have gk := (F4.cell (a := ⟨b, off + i * 6, none⟩) hbW hbf).trans g0)
                  have F4W : Frm (foot jb js) W w4 := ⟨F4.os, F4.tape, F4.output, F4.size, F4.block⟩
                  have rv6 : RowR w4 jb js' (.slice a6 dl.length c6) dl := HPA.out.d.frm F4W (fun k hk => by
                    rcases hk with h | h
                    · exact .inl h
                    · exact .inr (.inl h)) own4
                  have bB4 := HBB.out.frm F4W (by
                    rintro (h | h)
                    · omega
                    · have := HBS.out _ h; omega)
                  have RV6 := Lib.hid rv6
                  have BB4 := Lib.hid bB4
                  have HJ4 := Lib.hid hJ4
                  have OWN4 := Lib.hid own4
                  clear rv6 bB4 hJ4 own4 y0 y1 y2 y3 y4 g0
                  go_cut [82] from 59 to 82 (fun v82 wx => v82 = .bool ((kv i == 2) && decide ((0 : Int) < (dl.length : Int))) ∧ wx = w4)
                  case first =>
                    by_cases hk2 : kv i = 2
                    · have t2 : (kv i == 2) = true := by simp [hk2]
                      have HK2 := Lib.hid hk2
                      rw [t2]
                      clear hk2 HJJ
                      go_wp2
                      go_meet
                      case rel => exact ⟨by have h2 := HK2.out; simp [h2], rfl⟩
                    · have t2 : (kv i == 2) = false := by simpa using hk2
                      have HK2 := Lib.hid hk2
                      rw [t2]
                      clear hk2 HJJ
                      go_wp2
                      go_meet
                      case rel => exact ⟨by have h2 := HK2.out; simp [h2], rfl⟩
                  case rest =>
                  obtain ⟨rfl, hwc⟩ := hcut
                  rw [hwc]
                  clear hwc
                  go_upto_if 82 with fail
                  go_cut [6] from 82 to 109 (fun v6 wx => RowR wx jb js' v6 (dl.take n) ∧ Blk wx B #[.int .i64 s'.pos, .string s'.del, .string s'.ins, .int .i64 s'.ahead, .int .i64 s'.behind] 31 ∧ Frm (fun k => k = B) w4 wx)
                  case first =>
                    skip
                    by_cases hk2 : kv i = 2
                    · have t2 : (kv i == 2) = true := by simp [hk2]
                      rcases Nat.eq_zero_or_pos dl.length with hdl | hdl
                      · have t3 : ((kv i == 2) && decide ((0 : Int) < (dl.length : Int))) = false := by rw [hdl]; simp
                        obtain ⟨e1, e2⟩ : sv i = s' ∧ 0 = n := by
                          have := HJJ.out
                          rw [t2, hdl] at this
                          simpa [joinedSt] using this
                        have hdn : dl.take n = dl := by rw [List.take_of_length_le]; omega
                        have hrel : RowR w4 jb js' (.slice a6 dl.length c6) (dl.take n) ∧ Blk w4 B #[.int .i64 s'.pos, .string s'.del, .string s'.ins, .int .i64 s'.ahead, .int .i64 s'.behind] 31 ∧ Frm (fun k => k = B) w4 w4 := by
                          rw [hdn, ← e1]
                          exact ⟨RV6.out, BB4.out, Frm.refl _ _⟩
                        have HREL := Lib.hid hrel
                        rw [t3]
                        clear hrel hdn e1 e2 hdl t2 t3 hk2
                        go_wp2
                        go_meet
                        case rel => exact HREL.out
                      · have t3 : ((kv i == 2) && decide ((0 : Int) < (dl.length : Int))) = true := by rw [t2]; simp; omega
                        obtain ⟨D, hD⟩ : ∃ D, dl.length - 1 = D := ⟨_, rfl⟩
                        have hdM : dl.length ≤ 1000000 := by have := HPA.out.cap; omega
                        have hq1 : IntKind.i64.wrap ((dl.length : Int) - 1) = (D : Int) := by rw [IntWalk.i64_in] <;> omega
                        have hq2 : (0 : Int) ≤ (D : Int) := by omega
                        have hq3 : (D : Int) < (dl.length : Int) := by omega
                        rcases RV6.out with ⟨_, hbad⟩ | ⟨b6, o6, c6', h1, hlc6, hbj6, hbs6, hbl6, hst6⟩
                        · rw [hbad] at hdl; simp at hdl
                        · obtain ⟨rfl, rfl⟩ : a6 = some ⟨b6, o6, none⟩ ∧ c6 = c6' := by simpa using h1
                          obtain ⟨x, hx⟩ : ∃ x, dl[D]?.getD St.zero = x := ⟨_, rfl⟩
                          have hs := hst6 D (by omega)
                          rw [hx] at hs
                          have hsm := HPA.out.small x (by rw [← hx, List.getElem?_eq_getElem (by omega)]; exact List.mem_append_left _ (List.getElem_mem _))
                          have hjj : joinedSt (dl ++ ul) (D + 1) (sv i) = (s', n) := by
                            have := HJJ.out
                            rw [t2, show dl.length = D + 1 by omega] at this
                            simpa using this
                          have hxa : (dl ++ ul)[D]?.getD St.zero = x := by rw [List.getElem?_append_left (by omega)]; exact hx
                          unfold joinedSt at hjj
                          simp only [hxa] at hjj
                          obtain ⟨s0, s1, s2, s3, s4⟩ := hs
                          have v0 := BB4.out.cell 0
                          have v1 := BB4.out.cell 1
                          have v2 := BB4.out.cell 2
                          simp at v0 v1 v2
                          have hBl4 := BB4.out.lt
                          have hs : StepAt w4 b6 (o6 + D * 5) x := ⟨s0, s1, s2, s3, s4⟩
                          have kp : ∀ X, Below w4.heap.size w4 X → (X.cell? ⟨b6, o6 + D * 5, none⟩ = some (.int .i64 x.pos) ∧ X.cell? ⟨b6, o6 + D * 5 + 1, none⟩ = some (.string x.del) ∧ X.cell? ⟨b6, o6 + D * 5 + 2, none⟩ = some (.string x.ins) ∧ X.cell? ⟨B, 0, none⟩ = some (.int .i64 (sv i).pos) ∧ X.cell? ⟨B, 1, none⟩ = some (.string (sv i).del) ∧ X.cell? ⟨B, 2, none⟩ = some (.string (sv i).ins)) := fun X hX => by
                            have t := hs.below hX hbl6
                            have o := BB4.out.below hX
                            exact ⟨t.1, t.2.1, t.2.2.1, o.cell 0, o.cell 1, o.cell 2⟩
                          have HX := Lib.hid hx
                          have HST := Lib.hid hst6
                          have HD1 := Lib.hid (show dl.length = D + 1 by omega)
                          clear hx hst6 hxa h1 hD
                          cases hjo : joinSt x (sv i) with
                          | none =>
                              rw [hjo] at hjj
                              obtain ⟨e1, e2⟩ : sv i = s' ∧ D + 1 = n := by simpa using hjj
                              have E1 := Lib.hid e1
                              have E2 := Lib.hid (show dl.length = n by have := HD1.out; omega)
                              clear hjj e1 e2
                              have hcon : ∀ X, Calls Try.prog 10 #[.agg #[.int .i64 x.pos, .string x.del, .string x.ins], .agg #[.int .i64 (sv i).pos, .string (sv i).del, .string (sv i).ins]] X fun e' w' => e' = .returned (.tuple #[.agg #[.int .i64 0, .string ⟨#[]⟩, .string ⟨#[]⟩], .bool false]) ∧ Below X.heap.size X w' := fun X => by
                                have := join_any x (sv i) X (by omega) (by omega) (by omega) (by omega)
                                rw [hjo] at this
                                exact this
                              have HJO := Lib.hid hjo
                              clear hjo
                              rw [t3]
                              clear t3 t2 hk2
                              go_upto_region 23 with fail
                              go_cut [11, 12] from 84 to 94 (fun v11 v12 wx => ∃ E, v11 = .pointer (some ⟨E, 0, none⟩) ∧ v12 = .bool false ∧ Blk wx E #[.int .i64 0, .string ⟨#[]⟩, .string ⟨#[]⟩] 29 ∧ Below w4.heap.size w4 wx ∧ w4.heap.size ≤ E)
                              case first =>
                                go_region_held3 (fun X => X.cell? ⟨b6, o6 + D * 5, none⟩ = some (.int .i64 x.pos) ∧ X.cell? ⟨b6, o6 + D * 5 + 1, none⟩ = some (.string x.del) ∧ X.cell? ⟨b6, o6 + D * 5 + 2, none⟩ = some (.string x.ins) ∧ X.cell? ⟨B, 0, none⟩ = some (.int .i64 (sv i).pos) ∧ X.cell? ⟨B, 1, none⟩ = some (.string (sv i).del) ∧ X.cell? ⟨B, 2, none⟩ = some (.string (sv i).ins))
                                  ((refine kp _ ?_; (repeat (with_reducible (first | assumption | refine Below.drew ?_ | refine Below.alloc ?_ (by first | omega | (simp <;> omega)) _ | refine below_put ?_ _ _ | exact Below.refl _ _))); done))
                                  (first
                                    | (go_at_call 10; refine (hcon _).mono ?_; rintro e' w5 ⟨rfl, hb5⟩; have hw5 : Below w4.heap.size w4 w5 := ⟨hb5.os, hb5.tape, hb5.output, hb5.size, hb5.block⟩; have hz5 := hw5.size)
                                    | (go_at_call 10; refine (hcon _).mono ?_; rintro e' w5 ⟨rfl, hb5⟩; have hw5 : Below w4.heap.size w4 w5 := (below_a1 w4 (.cells #[.int .i64 0, .string ⟨#[]⟩, .string ⟨#[]⟩] 29)).trans (Below.mono ⟨hb5.os, hb5.tape, hb5.output, hb5.size, hb5.block⟩ (by simp)); have bZ : Blk w5 w4.heap.size #[.int .i64 0, .string ⟨#[]⟩, .string ⟨#[]⟩] 29 := Blk.below (by exact Blk.new w4 _ _) hb5; have hz5 := hw5.size; have z0 := bZ.cell 0; have z1 := bZ.cell 1; have z2 := bZ.cell 2; have zf0 := bZ.frozen 0; have zf1 := bZ.frozen 1; have zf2 := bZ.frozen 2))
                                all_goals
                                  go_wp2
                                  go_meet
                                  case rel =>
                                    first
                                      | exact ⟨w5.heap.size, rfl, rfl, Blk.new w5 _ _, hw5.alloc hz5 _, hz5⟩
                                      | exact ⟨w4.heap.size, rfl, rfl, ((bZ.set 0 _).set 1 _).set 2 _, ((hw5.setCell (p := ⟨w4.heap.size, 0, none⟩) (Nat.le_refl _) _).setCell (p := ⟨w4.heap.size, 1, none⟩) (Nat.le_refl _) _).setCell (p := ⟨w4.heap.size, 2, none⟩) (Nat.le_refl _) _, Nat.le_refl _⟩
                              case rest =>
                              obtain ⟨E, rfl, rfl, bE, h49, hEB⟩ := hcut
                              generalize hWW : wc = W9 at *
                              go_wp2
                              go_meet
                              case rel =>
                                rw [← E2.out, ← E1.out, List.take_length]
                                exact ⟨RV6.out.frm (Frm.of_below (p := fun _ => False) h49) (fun _ h => h.elim) (fun k hk => .inl hk), BB4.out.below h49, Frm.of_below h49⟩
                          | some e =>
                              rw [hjo] at hjj
                              obtain ⟨e1, e2⟩ : e = s' ∧ D = n := by simpa using hjj
                              have E1 := Lib.hid e1
                              have E2 := Lib.hid e2
                              clear hjj e1 e2
                              have hcon : ∀ X, Calls Try.prog 10 #[.agg #[.int .i64 x.pos, .string x.del, .string x.ins], .agg #[.int .i64 (sv i).pos, .string (sv i).del, .string (sv i).ins]] X fun e' w' => e' = .returned (.tuple #[.agg #[.int .i64 e.pos, .string e.del, .string e.ins], .bool true]) ∧ Below X.heap.size X w' := fun X => by
                                have := join_any x (sv i) X (by omega) (by omega) (by omega) (by omega)
                                rw [hjo] at this
                                exact this
                              have HJO := Lib.hid hjo
                              clear hjo
                              rw [t3]
                              clear t3 t2 hk2
                              go_upto_region 23 with fail
                              go_cut [11, 12] from 84 to 94 (fun v11 v12 wx => ∃ E, v11 = .pointer (some ⟨E, 0, none⟩) ∧ v12 = .bool true ∧ Blk wx E #[.int .i64 e.pos, .string e.del, .string e.ins] 29 ∧ Below w4.heap.size w4 wx ∧ w4.heap.size ≤ E)
                              case first =>
                                go_region_held3 (fun X => X.cell? ⟨b6, o6 + D * 5, none⟩ = some (.int .i64 x.pos) ∧ X.cell? ⟨b6, o6 + D * 5 + 1, none⟩ = some (.string x.del) ∧ X.cell? ⟨b6, o6 + D * 5 + 2, none⟩ = some (.string x.ins) ∧ X.cell? ⟨B, 0, none⟩ = some (.int .i64 (sv i).pos) ∧ X.cell? ⟨B, 1, none⟩ = some (.string (sv i).del) ∧ X.cell? ⟨B, 2, none⟩ = some (.string (sv i).ins))
                                  ((refine kp _ ?_; (repeat (with_reducible (first | assumption | refine Below.drew ?_ | refine Below.alloc ?_ (by first | omega | (simp <;> omega)) _ | refine below_put ?_ _ _ | exact Below.refl _ _))); done))
                                  (first
                                    | (go_at_call 10; refine (hcon _).mono ?_; rintro e' w5 ⟨rfl, hb5⟩; have hw5 : Below w4.heap.size w4 w5 := ⟨hb5.os, hb5.tape, hb5.output, hb5.size, hb5.block⟩; have hz5 := hw5.size)
                                    | (go_at_call 10; refine (hcon _).mono ?_; rintro e' w5 ⟨rfl, hb5⟩; have hw5 : Below w4.heap.size w4 w5 := (below_a1 w4 (.cells #[.int .i64 0, .string ⟨#[]⟩, .string ⟨#[]⟩] 29)).trans (Below.mono ⟨hb5.os, hb5.tape, hb5.output, hb5.size, hb5.block⟩ (by simp)); have bZ : Blk w5 w4.heap.size #[.int .i64 0, .string ⟨#[]⟩, .string ⟨#[]⟩] 29 := Blk.below (by exact Blk.new w4 _ _) hb5; have hz5 := hw5.size; have z0 := bZ.cell 0; have z1 := bZ.cell 1; have z2 := bZ.cell 2; have zf0 := bZ.frozen 0; have zf1 := bZ.frozen 1; have zf2 := bZ.frozen 2))
                                all_goals
                                  go_wp2
                                  go_meet
                                  case rel =>
                                    first
                                      | exact ⟨w5.heap.size, rfl, rfl, Blk.new w5 _ _, hw5.alloc hz5 _, hz5⟩
                                      | exact ⟨w4.heap.size, rfl, rfl, ((bZ.set 0 _).set 1 _).set 2 _, ((hw5.setCell (p := ⟨w4.heap.size, 0, none⟩) (Nat.le_refl _) _).setCell (p := ⟨w4.heap.size, 1, none⟩) (Nat.le_refl _) _).setCell (p := ⟨w4.heap.size, 2, none⟩) (Nat.le_refl _) _, Nat.le_refl _⟩
                              case rest =>
                              obtain ⟨E, rfl, rfl, bE, h49, hEB⟩ := hcut
                              generalize hWW : wc = W9 at *
                              go_wp2
                              have hz9 := h49.size
                              have bB9 := BB4.out.below h49
                              obtain ⟨u0, u1, u2, u3, u4'⟩ := hs.below h49 hbl6
                              have f0 := bE.cell 0
                              have f1 := bE.cell 1
                              have f2 := bE.cell 2
                              have f5 := bB9.cell 4
                              simp at f0 f1 f2 f5
                              have k0 := bB9.cell 0
                              have k1 := bB9.cell 1
                              have k2 := bB9.cell 2
                              have k3 := bB9.cell 3
                              simp at k0 k1 k2 k3
                              have kf0 := bB9.frozen 0
                              have kf1 := bB9.frozen 1
                              have kf2 := bB9.frozen 2
                              have kf3 := bB9.frozen 3
                              have kf4 := bB9.frozen 4
                              have BB9 := Lib.hid bB9
                              clear bB9 s0 s1 s2 s3 s4 v0 v1 v2 u0 u1 u2 u4'
                              have hq8 : (D : Int) ≤ (c6 : Int) := by omega
                              have hq9 : (D : Int) ≤ (dl.length : Int) := by omega
                              go_still_tail 10, (by kernel_rfl)
                              change wpList _ _ _ _ _ W9.drew
                              go_wp2
                              go_meet
                              case rel =>
                                have t1 := RV6.out.take _ c6 D rfl (by have := HD1.out; omega) (by have := HD1.out; omega)
                                have fB := ((Frm.of_below (p := fun k => k = B) h49).five (.inl rfl) (.int .i64 e.pos) (.string e.del) (.string e.ins) (.int .i64 x.ahead) (.int .i64 (sv i).behind)).drew
                                have ob := ((((BB9.out.set 0 (.int .i64 e.pos)).set 1 (.string e.del)).set 2 (.string e.ins)).set 3 (.int .i64 x.ahead)).set 4 (.int .i64 (sv i).behind)
                                obtain ⟨q1, q2⟩ := joinSt_ends HJO.out
                                rw [← E2.out, ← E1.out, q1, q2]
                                refine ⟨t1.frm2 fB (fun k hk hkB => ?_), ob.drew, fB⟩
                                have := HB6.out k hk
                                omega
                    · have t2 : (kv i == 2) = false := by simpa using hk2
                      have t3 : ((kv i == 2) && decide ((0 : Int) < (dl.length : Int))) = false := by rw [t2]; rfl
                      obtain ⟨e1, e2⟩ : sv i = s' ∧ dl.length = n := by
                        have := HJJ.out
                        rw [t2] at this
                        simpa using this
                      have hrel : RowR w4 jb js' (.slice a6 dl.length c6) (dl.take n) ∧ Blk w4 B #[.int .i64 s'.pos, .string s'.del, .string s'.ins, .int .i64 s'.ahead, .int .i64 s'.behind] 31 ∧ Frm (fun k => k = B) w4 w4 := by
                        rw [← e2, ← e1, List.take_length]
                        exact ⟨RV6.out, BB4.out, Frm.refl _ _⟩
                      have HREL := Lib.hid hrel
                      rw [t3]
                      clear hrel e1 e2 t2 t3 hk2
                      go_wp2
                      go_meet
                      case rel => exact HREL.out
                  case rest =>
                    skip
                    obtain ⟨rv8, bB8, F8⟩ := hcut
                    have hcW : w4.heap.size ≤ wc.heap.size := F8.size
                    obtain ⟨L, hL⟩ : ∃ L, dl.take n = L := ⟨_, rfl⟩
                    have hn : n ≤ dl.length := by
                      have hj := HJJ.out
                      by_cases hk : (kv i == 2) = true
                      · rw [if_pos hk] at hj
                        have := (joinedSt_le (dl ++ ul) dl.length (sv i)).1
                        rw [hj] at this
                        exact this
                      · rw [if_neg hk] at hj
                        cases hj
                        exact Nat.le_refl _
                    have hLn : L.length = n := by rw [← hL]; simp; omega
                    have hpl : pushL M (dl ++ ul) n s' = if M < n + 1 then (L ++ [s']).drop 1 else L ++ [s'] := by
                      unfold pushL
                      rw [List.take_append_of_le_length hn, hL]
                    rw [hL] at rv8
                    obtain ⟨a8, c8, hv8, _⟩ := rv8.rowS.form
                    subst hv8
                    generalize hW6 : wc = W6 at *
                    have bX := bB8
                    have hrs6 : ∀ X, Below W6.heap.size W6 X → RowS X (.slice a8 L.length c8) L := fun X hX => rv8.rowS.below hX
                    have RS6 := Lib.hid hrs6
                    have RV8 := Lib.hid rv8
                    have HLN := Lib.hid hLn
                    have HPL := Lib.hid hpl
                    have HLL := Lib.hid hL
                    have hcu : 0 + L.length ≤ 1000000 := by have := HPA.out.cap; omega
                    have hLM : L.length ≤ 1000000 := by omega
                    obtain ⟨i0, hi0, hz0, hz1, hz2⟩ := info_parts infoT
                    clear hrs6 rv8 bB8 hLn hpl hL hW6
                    go_wp2
                    have kp : ∀ X, Below W6.heap.size W6 X → (X.cell? ⟨B, 0, none⟩ = some (.int .i64 s'.pos) ∧ X.cell? ⟨B, 1, none⟩ = some (.string s'.del) ∧ X.cell? ⟨B, 2, none⟩ = some (.string s'.ins) ∧ X.cell? ⟨B, 3, none⟩ = some (.int .i64 s'.ahead) ∧ X.cell? ⟨B, 4, none⟩ = some (.int .i64 s'.behind)) := fun X hX => by
                      have ob := bX.below hX
                      exact ⟨ob.cell 0, ob.cell 1, ob.cell 2, ob.cell 3, ob.cell 4⟩
                    go_region_held3 (fun X => X.cell? ⟨B, 0, none⟩ = some (.int .i64 s'.pos) ∧ X.cell? ⟨B, 1, none⟩ = some (.string s'.del) ∧ X.cell? ⟨B, 2, none⟩ = some (.string s'.ins) ∧ X.cell? ⟨B, 3, none⟩ = some (.int .i64 s'.ahead) ∧ X.cell? ⟨B, 4, none⟩ = some (.int .i64 s'.behind))
                      ((refine kp _ ?_; (repeat (with_reducible (first | assumption | refine Below.drew ?_ | refine Below.alloc ?_ (by first | exact hwA.size | (simp <;> omega)) _ | exact Below.refl _ _))); done))
                      (first
                        | (refine step_app_any (by rfl) _ _ (by rfl) W6.heap.size i0 hi0 hz0 hz1 hz2 W6.heap.size 0 0 [] (by rfl) (by first | exact owns_none W6 | exact (owns_none W6).alloc _) _ L (by rfl) (RS6.out _ (by (repeat (with_reducible (first | assumption | refine Below.drew ?_ | refine Below.alloc ?_ (by simp <;> omega) _ | exact Below.refl _ _))))) hcu (by simp <;> omega) ?_; intro vA wA hownA hgrowA; have hwA : Below W6.heap.size W6 wA := Below.grown (by (repeat (with_reducible (first | assumption | refine Below.drew ?_ | refine Below.alloc ?_ (by simp <;> omega) _ | exact Below.refl _ _)))) hgrowA (by simp <;> omega) (fun k h => by cases h; omega))
                        | (refine step_app_any (by rfl) _ _ (by rfl) W6.heap.size i0 hi0 hz0 hz1 hz2 (W6.heap.size + 1) 0 0 [] (by rfl) (by exact owns_none1 W6 _) _ L (by rfl) (RS6.out _ (by (repeat (with_reducible (first | assumption | refine Below.drew ?_ | refine Below.alloc ?_ (by simp <;> omega) _ | exact Below.refl _ _))))) hcu (by simp <;> omega) ?_; intro vA wA hownA hgrowA; have hwA : Below W6.heap.size W6 wA := Below.grown (by (repeat (with_reducible (first | assumption | refine Below.drew ?_ | refine Below.alloc ?_ (by simp <;> omega) _ | exact Below.refl _ _)))) hgrowA (by simp <;> omega) (fun k h => by cases h; omega))
                        | (refine step_append_lies _ (by rfl) _ _ _ (by rfl) W6.heap.size 31 i0 _ 5 56 Try.underlying27 hi0 hz0 hz1 hz2 rfl (by omega) vA (0 + L.length) ([] ++ cellsOf L) (by rfl) (by exact hownA.alloc _) ⟨wA.heap.size, 0, none⟩ 1 1 s'.cells (by rfl) (by rfl) (by exact World.news_of_block (cs := #[.int .i64 s'.pos, .string s'.del, .string s'.ins, .int .i64 s'.ahead, .int .i64 s'.behind]) (t := 31) (fr := (0, 0)) (heap_alloc_new wA _)) (by simp [St.cells, Value.oneCell']) (by omega) (by unfold maxLen; omega) (by omega) (by first | exact hwA.size | (have := hwA.size; simp; omega)) _ rfl ?_; intro g2 cap2 w7 hown7 hgrow7 hat hlt; have hw7 : Below W6.heap.size W6 w7 := Below.grown (by (repeat (with_reducible (first | assumption | refine Below.drew ?_ | refine Below.alloc ?_ (by first | exact hwA.size | (simp <;> omega)) _ | exact Below.refl _ _)))) hgrow7 (by first | exact hwA.size | (have := hwA.size; simp; omega)) (fun k h => (hownA.lt k h).1))
                        | (refine step_append_lies _ (by rfl) _ _ _ (by rfl) W6.heap.size 31 i0 _ 5 56 Try.underlying27 hi0 hz0 hz1 hz2 rfl (by omega) vA (0 + L.length) ([] ++ cellsOf L) (by rfl) (by exact hownA) ⟨W6.heap.size + 1, 0, none⟩ 1 1 s'.cells (by rfl) (by rfl) (by exact World.news_of_block (cs := #[.int .i64 s'.pos, .string s'.del, .string s'.ins, .int .i64 s'.ahead, .int .i64 s'.behind]) (t := 31) (fr := (0, 0)) ((hgrowA.block _ (by simp) (by simp)).trans (Blk.new1 W6 _ _ _))) (by simp [St.cells, Value.oneCell']) (by omega) (by unfold maxLen; omega) (by omega) (by first | exact hwA.size | (have := hwA.size; simp; omega)) _ rfl ?_; intro g2 cap2 w7 hown7 hgrow7 hat hlt; have hw7 : Below W6.heap.size W6 w7 := Below.grown (by (repeat (with_reducible (first | assumption | refine Below.drew ?_ | refine Below.alloc ?_ (by first | exact hwA.size | (simp <;> omega)) _ | exact Below.refl _ _)))) hgrow7 (by first | exact hwA.size | (have := hwA.size; simp; omega)) (fun k h => (hownA.lt k h).1))
                        | (refine step_append_lies _ (by rfl) _ _ _ (by rfl) W6.heap.size 31 i0 _ 5 56 Try.underlying27 hi0 hz0 hz1 hz2 rfl (by omega) vA (0 + L.length) ([] ++ cellsOf L) (by rfl) (by exact hownA) ⟨W6.heap.size, 0, none⟩ 1 1 s'.cells (by rfl) (by rfl) (by exact World.news_of_block (cs := #[.int .i64 s'.pos, .string s'.del, .string s'.ins, .int .i64 s'.ahead, .int .i64 s'.behind]) (t := 31) (fr := (0, 0)) ((hgrowA.block _ (by simp <;> omega) (by simp)).trans ((Blk.new W6 _ _).alloc _))) (by simp [St.cells, Value.oneCell']) (by omega) (by unfold maxLen; omega) (by omega) (by first | exact hwA.size | (have := hwA.size; simp; omega)) _ rfl ?_; intro g2 cap2 w7 hown7 hgrow7 hat hlt; have hw7 : Below W6.heap.size W6 w7 := Below.grown (by (repeat (with_reducible (first | assumption | refine Below.drew ?_ | refine Below.alloc ?_ (by first | exact hwA.size | (simp <;> omega)) _ | exact Below.refl _ _)))) hgrow7 (by first | exact hwA.size | (have := hwA.size; simp; omega)) (fun k h => (hownA.lt k h).1)))
                    all_goals
                      skip
                      have hR7 := hown7
                      rw [List.nil_append] at hR7
                      have hown8 : w7.ownsRow W6.heap.size 31 5 (.slice (some ⟨g2, 0, none⟩) (L.length + 1) cap2) (L.length + 1) (cellsOf (L ++ [s'])) := by
                        rw [cellsOf_append, cellsOf_one]
                        rw [Nat.zero_add] at hR7
                        exact hR7
                      have HO8 := Lib.hid hown8
                      have hjs6 : ∀ k, js'.ownBlock = some k → k < W6.heap.size ∧ k ≠ B ∧ w.heap.size ≤ k := fun k hk => by
                        have h1 := (HJ4.out.row.lt k hk).1
                        have h2 : w4.heap.size ≤ W6.heap.size := hcW
                        have hBW := HBB.out.lt
                        have hpz := hpa.size
                        rcases OWN4.out k hk with h | h
                        · have h3 := HBS.out k h
                          have h4 := HPA.out.own k h
                          exact ⟨by omega, by omega, h4⟩
                        · have h5 : W.heap.size ≤ k := h
                          exact ⟨by omega, by omega, by omega⟩
                      have hjb6 : jb < W6.heap.size := by have h1 := HJ4.out.obj.lt; have h2 : w4.heap.size ≤ W6.heap.size := hcW; omega
                      have hrow : RowR w7 jb js' (.slice (some ⟨g2, 0, none⟩) (L.length + 1) cap2) (L ++ [s']) := RowR.of_owns (base := W6.heap.size) HO8.out (by simp) hjb6 (fun k hk => (hjs6 k hk).1)
                      have hJ7 : Jn w7 jb M js' (pushL M (dl ++ ul) n s') (pushL M (dl ++ ul) n s').length := jn_below (HJ4.out.frm F8 (fun k hk => by
                        rcases hk with rfl | hk
                        · omega
                        · exact (hjs6 k hk).2.1)) hw7
                      have hb7 : Below w.heap.size w w7 := by
                        have e4 : Below w.heap.size w w4 := hpa.trans (F4W.below hpa.size (fun k hk => by
                          rcases hk with rfl | hk
                          · exact hjw
                          · exact HPA.out.own k hk))
                        have e6 : Below w.heap.size w W6 := e4.trans (F8.below e4.size (fun k hk => by omega))
                        exact e6.trans (hw7.mono e6.size)
                      have hsmall : ∀ y ∈ L ++ [s'], y.del.size ≤ 100 * (i + 1) ∧ y.ins.size ≤ 100 * (i + 1) := by
                        intro y hy
                        have := push_small (steps := dl ++ ul) (done := dl.length) (by simp) HPA.out.small z1 z2 HJJ.out y (by
                          rw [List.take_append_of_le_length (by have := HLN.out; omega), HLL.out]
                          exact hy)
                        omega
                      have hlen7 := HPA.out.len
                      have rel : ∀ v6, RowR w7 jb js' v6 (pushL M (dl ++ ul) n s') → RelQ w jb M i v6 (.slice none 0 0) w7 := by
                        intro v6 hv6
                        have hpl := HPL.out
                        have hLn := HLN.out
                        have hll : (L ++ [s']).length = n + 1 := by simp; omega
                        have hcap7 := HPA.out.cap
                        have hpn : (pushL M (dl ++ ul) n s').length + ([] : List St).length ≤ i + 1 ∧ (pushL M (dl ++ ul) n s').length + ([] : List St).length ≤ M := by
                          rw [hpl]
                          split
                          · rw [List.length_drop, hll, List.length_nil]; omega
                          · rw [hll, List.length_nil]; omega
                        refine ⟨pushL M (dl ++ ul) n s', [], js', ⟨by rw [List.append_nil]; exact hJ7, hv6, .inl ⟨rfl, rfl⟩, ?_, ?_, ?_, hb7, fun k hk => (hjs6 k hk).2.2⟩⟩
                        · exact hpn.1
                        · exact hpn.2
                        · intro y hy
                          rw [List.append_nil, hpl] at hy
                          split at hy
                          · exact hsmall y (List.mem_of_mem_drop hy)
                          · exact hsmall y hy
                      have REL := Lib.hid rel
                      have HROW7 := Lib.hid hrow
                      clear rel hrow hJ7 hb7 hsmall hjs6 hR7 hown8 hown7 hgrow7 hgrowA hownA
                      by_cases hov : M < L.length + 1
                      · have hov' : (M : Int) < (L.length : Int) + 1 := by omega
                        obtain ⟨z, zs, hzz⟩ : ∃ z zs, L ++ [s'] = z :: zs := by
                          cases L with
                          | nil => exact ⟨s', [], rfl⟩
                          | cons a l => exact ⟨a, l ++ [s'], rfl⟩
                        have hzl : zs.length = L.length := by
                          have := congrArg List.length hzz
                          simp at this
                          omega
                        have hrt := HROW7.out
                        rw [hzz] at hrt
                        obtain ⟨bb, oo, cc, hvv, hlcc, _, _, t1, _⟩ := hrt.tail
                        obtain ⟨⟨rfl, rfl⟩, -, rfl⟩ : (g2 = bb ∧ 0 = oo) ∧ L.length = zs.length ∧ cap2 = cc := by simpa using hvv
                        have hc2 : 1 < cap2 := by omega
                        have hc3 : 0 < cap2 - 1 := by omega
                        have HF := Lib.hid (show RowR w7 jb js' (.slice (some ⟨g2, 0 + 5, none⟩) L.length (cap2 - 1)) (pushL M (dl ++ ul) n s') by
                          rw [HPL.out, if_pos (by have := HLN.out; omega), hzz, ← hzl]
                          exact t1 hc2)
                        have hq7 : (1 : Int) ≤ (L.length : Int) + 1 := by omega
                        clear hrt t1 hvv hzz hzl hlcc
                        go_wp2
                        go_meet
                        case rel => first | exact REL.out _ HF.out | exact REL.out _ (by simpa using HF.out) | exact REL.out _ (by rw [Nat.zero_add] at HF; exact HF.out)
                      · have hov' : ¬ (M : Int) < (L.length : Int) + 1 := by omega
                        have HF := Lib.hid (show RowR w7 jb js' (.slice (some ⟨g2, 0, none⟩) (L.length + 1) cap2) (pushL M (dl ++ ul) n s') by
                          rw [HPL.out, if_neg (by have := HLN.out; omega)]
                          exact HROW7.out)
                        go_wp2
                        go_meet
                        case rel => exact REL.out _ HF.out
end Go.Proofs.Ytgdamapocomhkaa

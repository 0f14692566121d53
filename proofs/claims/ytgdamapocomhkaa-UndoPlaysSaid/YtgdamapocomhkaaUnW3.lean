/- UndoPlays: an act that undoes. Condition: the lists and the journal agree ahead of it. -/
import Derived.Test.YtgdamapocomhkaaUnWa
namespace Go.Proofs.Ytgdamapocomhkaa
open Go.RowKit Go.Shelf
set_option linter.unusedVariables false

set_option maxRecDepth 100000 in
set_option maxHeartbeats 40000000 in
theorem plays_undo
    (kv : Nat → Int) (sv : Nat → St) (M len cap : Nat) (w : World) (hm1 : 1 ≤ M) (hm2 : M ≤ 60) (hl40 : len ≤ 40) (jb : Nat) (hjw : w.heap.size ≤ jb)
    (u6 u7 : Value) (i : Nat) (dl ul : List St) (js : Value) (hi : i ≤ len) (hlt : i < len) (b off : Nat) (z1 : (sv i).del.size ≤ 100) (z2 : (sv i).ins.size ≤ 100) (hbl : b < w.heap.size) (hx : (i : Int) < len)
    (J K : Act → World → Prop) (Q : Exit → Act → World → Prop) (hK : ∀ a' w', Met J a' w' → K a' w') (B : Nat)
    (c2 c3 c17 c18 c19 c20 c21 c22 c23 c24 c25 c26 c27 c28 c29 c30 c31 c32 c33 c34 c35 c36 c37 c38 c39 c40 c41 : Value) (u4 u10 u11 u12 u13 u14 u15 u16 u42 u43 u44 u45 u46 u47 u48 u49 u50 u51 u52 u53 u54 u55 u56 u57 u58 u59 u60 u61 u62 u63 u64 u65 u66 u67 u68 u69 u70 u71 u72 u73 u74 u75 u76 u77 u78 u79 u80 u81 u82 u83 u84 u85 u86 u87 u88 u89 u90 u91 u92 u93 u94 u95 u96 u97 u98 u99 u100 u101 u102 u103 u104 u105 u106 u107 u108 u109 u110 u111 u112 u113 u114 u115 u116 u117 u118 u119 u120 u121 u122 u123 u124 u125 u126 u127 u128 u129 u130 u131 u132 u133 u134 u135 u136 u137 u138 u139 u140 u141 u142 u143 u144 u145 u146 u147 u148 u149 u150 u151 u152 u153 u154 u155 u156 u157 u158 u159 u160 u161 u162 u163 u164 u165 u166 u167 u168 u169 u170 u171 u172 u173 u174 u175 u176 u177 u178 u179 u180 u181 u182 u183 u184 u185 u186 u187 u188 u189 u190 u191 u192 u193 u194 u195 u196 u197 u198 u199 u200 u201 u202 u203 u204 u205 u206 u207 u208 u209 u210 u211 u212 u213 u214 u215 u216 u217 : Value)
    (hJ : ∀ a' w', (∃ u4 u6 u7 u10 u11 u12 u13 u14 u15 u16 u42 u43 u44 u45 u46 u47 u48 u49 u50 u51 u52 u53 u54 u55 u56 u57 u58 u59 u60 u61 u62 u63 u64 u65 u66 u67 u68 u69 u70 u71 u72 u73 u74 u75 u76 u77 u78 u79 u80 u81 u82 u83 u84 u85 u86 u87 u88 u89 u90 u91 u92 u93 u94 u95 u96 u97 u98 u99 u100 u101 u102 u103 u104 u105 u106 u107 u108 u109 u110 u111 u112 u113 u114 u115 u116 u117 u118 u119 u120 u121 u122 u123 u124 u125 u126 u127 u128 u129 u130 u131 u132 u133 u134 u135 u136 u137 u138 u139 u140 u141 u142 u143 u144 u145 u146 u147 u148 u149 u150 u151 u152 u153 u154 u155 u156 u157 u158 u159 u160 u161 u162 u163 u164 u165 u166 u167 u168 u169 u170 u171 u172 u173 u174 u175 u176 u177 u178 u179 u180 u181 u182 u183 u184 u185 u186 u187 u188 u189 u190 u191 u192 u193 u194 u195 u196 u197 u198 u199 u200 u201 u202 u203 u204 u205 u206 u207 u208 u209 u210 u211 u212 u213 u214 u215 u216 u217 : Value, RelQ w jb M i u6 u7 w' ∧ a' = ⟨#[.int .i64 (M : Int), .slice (some ⟨b, off, none⟩) len cap, c2, c3, u4, .pointer (some ⟨jb, 0, none⟩), u6, u7, .int .i64 (i : Int), .pointer (some ⟨B, 0, none⟩), u10, u11, u12, u13, u14, u15, u16, c17, c18, c19, c20, c21, c22, c23, c24, c25, c26, c27, c28, c29, c30, c31, c32, c33, c34, c35, c36, c37, c38, c39, c40, c41, u42, u43, u44, u45, u46, u47, u48, u49, u50, u51, u52, u53, u54, u55, u56, u57, u58, u59, u60, u61, u62, u63, u64, u65, u66, u67, u68, u69, u70, u71, u72, u73, u74, u75, u76, u77, u78, u79, u80, u81, u82, u83, u84, u85, u86, u87, u88, u89, u90, u91, u92, u93, u94, u95, u96, u97, u98, u99, u100, u101, u102, u103, u104, u105, u106, u107, u108, u109, u110, u111, u112, u113, u114, u115, u116, u117, u118, u119, u120, u121, u122, u123, u124, u125, u126, u127, u128, u129, u130, u131, u132, u133, u134, u135, u136, u137, u138, u139, u140, u141, u142, u143, u144, u145, u146, u147, u148, u149, u150, u151, u152, u153, u154, u155, u156, u157, u158, u159, u160, u161, u162, u163, u164, u165, u166, u167, u168, u169, u170, u171, u172, u173, u174, u175, u176, u177, u178, u179, u180, u181, u182, u183, u184, u185, u186, u187, u188, u189, u190, u191, u192, u193, u194, u195, u196, u197, u198, u199, u200, u201, u202, u203, u204, u205, u206, u207, u208, u209, u210, u211, u212, u213, u214, u215, u216, u217], []⟩) → J a' w')
    (hBj : jb < B) (hBw : w.heap.size ≤ B) (HBS : RowKit.Hid (∀ (k : Nat), js.ownBlock = some k → k < B)) (HB6 : RowKit.Hid (∀ (k : Nat), u6.ownBlock = some k → k < B)) (W : World) (hpa : Below w.heap.size w W) (HPA : RowKit.Hid (PInv w jb M i dl ul js u6 u7 W))
    (HBB : RowKit.Hid (Blk W B #[.int .i64 (sv i).pos, .string (sv i).del, .string (sv i).ins, .int .i64 (sv i).ahead, .int .i64 (sv i).behind] 31)) (HRR : RowKit.Hid (ActRow W b off len kv sv)) (e3 : kv i = 3) :
    Code.wp Try.prog playsBlk (Exit.then K Q) ⟨#[.int .i64 (M : Int), .slice (some ⟨b, off, none⟩) len cap, c2, c3, u4, .pointer (some ⟨jb, 0, none⟩), u6, u7, .int .i64 (i : Int), .pointer (some ⟨B, 0, none⟩), u10, u11, u12, u13, u14, u15, u16, c17, c18, c19, c20, c21, c22, c23, c24, c25, c26, c27, c28, c29, c30, c31, c32, c33, c34, c35, c36, c37, c38, c39, c40, c41, u42, u43, u44, u45, u46, u47, u48, u49, u50, u51, u52, u53, u54, u55, u56, .int .i64 (kv i), u58, u59, u60, u61, u62, u63, u64, u65, u66, u67, u68, u69, u70, u71, u72, u73, u74, u75, u76, u77, u78, u79, u80, u81, u82, u83, u84, u85, u86, u87, u88, u89, u90, u91, u92, u93, u94, u95, u96, u97, u98, u99, u100, u101, u102, u103, u104, u105, u106, u107, u108, u109, u110, u111, u112, u113, u114, u115, u116, u117, u118, u119, u120, u121, u122, u123, u124, u125, u126, u127, u128, u129, u130, u131, u132, u133, u134, u135, u136, u137, u138, u139, u140, u141, u142, u143, u144, u145, u146, u147, u148, u149, u150, u151, u152, u153, u154, u155, u156, u157, u158, u159, u160, u161, u162, u163, u164, u165, u166, u167, u168, u169, u170, u171, u172, u173, u174, u175, u176, u177, u178, u179, u180, u181, u182, u183, u184, u185, u186, u187, u188, u189, u190, u191, u192, u193, u194, u195, u196, u197, u198, u199, u200, u201, u202, u203, u204, u205, u206, u207, u208, u209, u210, u211, u212, u213, u214, u215, u216, u217], []⟩ W := by
            conv => arg 2; whnf
            cases hdl : dl.length with
            | zero =>
              have hJ0 : Jn W jb M js (dl ++ ul) 0 := by have := HPA.out.jn; rw [hdl] at this; exact this
              obtain ⟨a6, c6, hv6, _⟩ := HPA.out.d.rowS.form
              rw [hdl] at hv6
              subst hv6
              go_wp2_with fail
              refine (undo_n jb M js _ W hJ0).mono ?_
              rintro e w5 ⟨rfl, hb5⟩
              go_wp2
              go_quiet (fail)
              go_wp2
              go_meet
              case rel => exact ⟨dl, ul, js, ((HPA.out.succ.ext hb5).ext (below_drewN ((Below.refl _ _).alloc (Nat.le_refl _) _) _))⟩
            | succ d =>
              have hJd : Jn W jb M js (dl ++ ul) (d + 1) := by have := HPA.out.jn; rw [hdl] at this; exact this
              have hd6 := HPA.out.d
              rcases hd6 with ⟨_, h0⟩ | ⟨b6, o6, c6, hv6, hlc6, hbj6, hbs6, hbl6, hst6⟩
              · rw [h0] at hdl; simp at hdl
              · rw [hdl] at hv6 hlc6
                subst hv6
                obtain ⟨x, hx⟩ : ∃ x, dl[d]?.getD St.zero = x := ⟨_, rfl⟩
                have hxa : (dl ++ ul)[d]?.getD St.zero = x := by rw [List.getElem?_append_left (by omega)]; exact hx
                have hsx := hst6 d (by omega)
                rw [hx] at hsx
                have HX := Lib.hid hx
                have HST := Lib.hid hst6
                have HLN : (dl ++ ul).length ≤ 1000000 := by have := HPA.out.cap; simp; omega
                clear hst6 hx
                go_wp2_with fail
                refine (undo_y jb M js _ W d hJd HLN x hxa).mono ?_
                rintro e w5 ⟨rfl, hJ5, F5⟩
                have hJ5B := hJ5.obj.lt
                have rv6 : RowR w5 jb js (.slice (some ⟨b6, o6, none⟩) dl.length c6) dl := (RowR.frm (.inr ⟨b6, o6, c6, rfl, by omega, hbj6, hbs6, hbl6, HST.out⟩) F5 (fun k hk => .inl hk) (fun k hk => .inl hk))
                have rv7 := HPA.out.u.frm F5 (fun k hk => .inl hk) (fun k hk => .inl hk)
                have hB5 : Below w.heap.size w w5 := hpa.trans (F5.below hpa.size (fun k hk => by omega))
                have hs5 := hsx.frm F5 hbl6 hbj6
                have hbl5 : b6 < w5.heap.size := Nat.lt_of_lt_of_le hbl6 F5.size
                have RV6 := Lib.hid rv6
                have RV7 := Lib.hid rv7
                have HJ5 := Lib.hid hJ5
                clear rv6 rv7 hJ5
                obtain ⟨p0, p1, p2, p3, p4⟩ := hs5
                have hdM : d + 1 ≤ 1000000 := by have := HPA.out.cap; omega
                have hq0 : (0 : Int) ≤ (d : Int) := by omega
                have hq1 : (d : Int) < (d : Int) + 1 := by omega
                have hq2 : IntKind.i64.wrap ((d : Int) + 1 - 1) = d := by rw [IntWalk.i64_in] <;> omega
                have hq3 : IntKind.i64.wrap (d : Int) = d := by rw [IntWalk.i64_in] <;> omega
                have hq4 : (0 : Int) < (d : Int) + 1 := by omega
                go_wp2
                go_quiet (fail)
                have h56 : Below w5.heap.size w5 ((w5.alloc (.cells #[.int .i64 x.pos, .string x.del, .string x.ins, .int .i64 x.ahead, .int .i64 x.behind] 31)).drewN nq) := below_drewN ((Below.refl _ _).alloc (Nat.le_refl _) _) _
                have bX : Blk ((w5.alloc (.cells #[.int .i64 x.pos, .string x.del, .string x.ins, .int .i64 x.ahead, .int .i64 x.behind] 31)).drewN nq) w5.heap.size #[.int .i64 x.pos, .string x.del, .string x.ins, .int .i64 x.ahead, .int .i64 x.behind] 31 := (Blk.new w5 _ _).drewN nq
                generalize World.drewN _ _ = W6 at h56 bX ⊢
                have y0 := bX.cell 0
                have y1 := bX.cell 1
                have y2 := bX.cell 2
                have y3 := bX.cell 3
                have y4 := bX.cell 4
                simp at y0 y1 y2 y3 y4
                have rs7 := (RV7.out.rowS.below h56).below ((Below.refl _ _).alloc (Nat.le_refl _) (.cells #[.int .i64 x.pos, .string x.del, .string x.ins, .int .i64 x.ahead, .int .i64 x.behind] 31))
                have RS7 := Lib.hid rs7
                have hcu : 1 + ul.length ≤ 1000000 := by have := HPA.out.cap; omega
                obtain ⟨i0, hi0, hz0, hz1, hz2⟩ := info_parts infoT
                have hq5 : (d : Int) ≤ (d : Int) + 1 := by omega
                have hq6 : (d : Int) ≤ (c6 : Int) := by omega
                clear rs7 p0 p1 p2 p3 p4
                go_wp2_with (at_builtin; refine wpList_app_any rfl _ _ rfl W6.heap.size i0 hi0 hz0 hz1 hz2 W6.heap.size 1 1 x.cells rfl (owns_one W6 x) _ ul rfl RS7.out hcu (by simp) ?_; intro v' w7 hown7 hgrow)
                go_meet
                case rel =>
                  have hW7 : Below W6.heap.size W6 w7 := Below.grown ((Below.refl _ _).alloc (Nat.le_refl _) _) hgrow (by simp) (fun k h => by cases h; exact Nat.le_refl _)
                  have h57 : Below w5.heap.size w5 w7 := h56.trans (hW7.mono h56.size)
                  have heq := take_cons (ul := ul) hdl HX.out
                  have hdt : (dl.take d).length = d := by simp; omega
                  have hPs := HPA.out.succ
                  have hjs := HPA.out.jn.row.lt
                  have hsz5 := F5.size
                  have hsz6 := h56.size
                  refine ⟨dl.take d, x :: ul, js, ⟨?_, ?_, ?_, ?_, ?_, ?_, ?_, hPs.own⟩⟩
                  · rw [heq, hdt]; exact jn_below HJ5.out h57
                  · exact RowR.take (RV6.out.frm (Frm.of_below (p := fun _ => False) h57) (fun _ h => h.elim) (fun k hk => .inl hk)) _ c6 d rfl (by omega) (by omega)
                  · exact RowR.of_owns (base := W6.heap.size) (n := 1 + ul.length) (by rw [cellsOf_cons]; exact hown7) (by simp; omega) (by omega) (fun k hk => by have := (hjs k hk).1; omega)
                  · have := hPs.len; rw [hdt]; simp; omega
                  · have := hPs.cap; rw [hdt]; simp; omega
                  · intro y hy; rw [heq] at hy; exact hPs.small y hy
                  · exact hB5.trans (h57.mono hB5.size)
end Go.Proofs.Ytgdamapocomhkaa

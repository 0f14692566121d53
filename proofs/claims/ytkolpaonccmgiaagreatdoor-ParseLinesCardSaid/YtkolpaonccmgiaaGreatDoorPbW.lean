/- A row of leaves put behind another one; how many Pipes a row of nodes has; whether it is clean by the document's own Clean. Condition: at most a million elements. -/
import Derived.Test.YtkolpaonccmgiaaGreatDoorPbV
import Derived.Test.YtkolpaonccmgiaaGreatDoorPbB
import Derived.Test.YtkolpaonccmgiaaGreatDoorAp
namespace Go.Proofs.YtkolpaonccmgiaaGreatDoor.Q
open Go.RowKit
set_option linter.unusedVariables false

theorem infoLf : (Tryz.prog.info? 37).map (fun i => (i.zero, i.size, i.bytes)) = some (some (.agg #[.int .i64 0, .string ⟨#[]⟩, .int .i64 0, .int .i64 0]), 4, 40) := by kernel_rfl
/-- A leaf as cells. -/
def cellLq (p : Lf) : List Value := [.int .i64 p.k, .string p.s, .int .i64 p.f, .int .i64 p.t]
def cellsLq (l : List Lf) : List Value := l.flatMap cellLq
theorem cellsLq_cons (a : Lf) (l : List Lf) : cellsLq (a :: l) = .int .i64 a.k :: .string a.s :: .int .i64 a.f :: .int .i64 a.t :: cellsLq l := by
  unfold cellsLq; rw [List.flatMap_cons]; rfl
theorem cellsLq_length (l : List Lf) : (cellsLq l).length = l.length * 4 := by
  induction l with
  | nil => rfl
  | cons a l ih => rw [cellsLq_cons]; simp only [List.length_cons, ih]; omega
theorem cellsLq_append (l k : List Lf) : cellsLq (l ++ k) = cellsLq l ++ cellsLq k := by unfold cellsLq; rw [List.flatMap_append]
theorem cellsLq_one : ∀ (l : List Lf) (u : Value), u ∈ cellsLq l → u.oneCell' = true
  | [], u, h => by simp [cellsLq] at h
  | a :: l, u, h => by
    rw [cellsLq_cons] at h
    simp only [List.mem_cons] at h
    rcases h with rfl | rfl | rfl | rfl | h
    · rfl
    · rfl
    · rfl
    · rfl
    · exact cellsLq_one l u h
theorem cellsLq_at : ∀ (l : List Lf) (j : Nat) (u : Value), (cellsLq l)[j]? = some u → ∃ p, l[j / 4]? = some p ∧ (cellLq p)[j % 4]? = some u
  | [], j, u, h => by simp [cellsLq] at h
  | a :: l, j, u, h => by
    rw [cellsLq_cons] at h
    match j, h with
    | 0, h => exact ⟨a, rfl, h⟩
    | 1, h => exact ⟨a, rfl, h⟩
    | 2, h => exact ⟨a, rfl, h⟩
    | 3, h => exact ⟨a, rfl, h⟩
    | j + 4, h =>
      obtain ⟨p, h1, h2⟩ := cellsLq_at l j u (by simpa using h)
      exact ⟨p, by rw [show (j + 4) / 4 = j / 4 + 1 by omega]; simpa using h1, by rw [show (j + 4) % 4 = j % 4 by omega]; exact h2⟩
theorem cellsLq_get : ∀ {l : List Lf} {j : Nat} {p : Lf}, l[j]? = some p → ∀ c v, (cellLq p)[c]? = some v → (cellsLq l)[j * 4 + c]? = some v
  | [], j, p, h, c, v, hv => by simp at h
  | a :: l, 0, p, h, c, v, hv => by
    simp at h
    subst h
    rw [cellsLq_cons]
    match c, hv with
    | 0, hv => exact hv
    | 1, hv => exact hv
    | 2, hv => exact hv
    | 3, hv => exact hv
    | c + 4, hv => simp [cellLq] at hv
  | a :: l, j + 1, p, h, c, v, hv => by
    have := cellsLq_get (l := l) (j := j) (p := p) (by simpa using h) c v hv
    rw [cellsLq_cons, show (j + 1) * 4 + c = j * 4 + c + 4 by omega]
    simpa using this
/-- A row's leaves as a list, and a list's leaves. -/
def lvL (lv : Nat → Lf) (n : Nat) : List Lf := (List.range n).map lv
theorem lvL_len (lv : Nat → Lf) (n : Nat) : (lvL lv n).length = n := by simp [lvL]
theorem lvL_at {lv : Nat → Lf} {n i : Nat} (h : i < n) : (lvL lv n)[i]? = some (lv i) := by unfold lvL; rw [List.getElem?_map, List.getElem?_range h]; rfl
def lfq (L : List Lf) (i : Nat) : Lf := L[i]?.getD lf0
theorem owns_lfq {w : World} {base n : Nat} {oa : Option Addr} {oc : Nat} {L : List Lf} (h : w.ownsRow base 37 4 (.slice oa n oc) n (cellsLq L)) : n = L.length ∧ LfRow w oa n (lfq L) := by
  have hn : n = L.length := by
    have := h.1
    rw [cellsLq_length] at this
    omega
  refine ⟨hn, fun i hi => ?_⟩
  obtain ⟨x, hx⟩ : ∃ x, L[i]? = some x := ⟨_, List.getElem?_eq_getElem (by omega)⟩
  rcases h.2 with ⟨h1, h2⟩ | ⟨g, cap, cur, h1, h2, h3, h4, h5, h6, h7⟩
  · omega
  cases h1
  have hc : ∀ c v, (cellLq x)[c]? = some v → w.cell? ⟨g, i * 4 + c, none⟩ = some v := fun c v hv => by
    have := h.cells (g := g) rfl _ _ (cellsLq_get hx c v hv)
    rwa [Addr.add_lit, Nat.zero_add] at this
  rw [show lfq L i = x by unfold lfq; rw [hx]; rfl]
  refine ⟨g, 0, rfl, (Array.getElem?_eq_some_iff.1 h3).1, ?_, ?_, ?_, ?_⟩
  · simpa using hc 0 _ rfl
  · simpa using hc 1 _ rfl
  · simpa using hc 2 _ rfl
  · simpa using hc 3 _ rfl
theorem lfrow_src {w : World} {la : Option Addr} {n lc : Nat} {lv : Nat → Lf} (h : LfRow w la n lv) (h0 : 0 < n) : Src w (.slice la n lc) n (cellsLq (lvL lv n)) := by
  obtain ⟨b, off, rfl, hb, _⟩ := h 0 h0
  refine .inr ⟨b, off, lc, rfl, hb, fun j u hj => ?_⟩
  obtain ⟨p, hp, hu⟩ := cellsLq_at _ _ _ hj
  have hlt : j / 4 < n := by
    have := (List.getElem?_eq_some_iff.1 hp).1
    rwa [lvL_len] at this
  rw [lvL_at hlt] at hp
  cases hp
  obtain ⟨b', off', he, _, c0, c1, c2, c3⟩ := h (j / 4) hlt
  cases he
  have hj4 : j = j / 4 * 4 + j % 4 := by omega
  have hr : j % 4 < 4 := Nat.mod_lt _ (by decide)
  rw [show off + j = off + j / 4 * 4 + j % 4 by omega]
  generalize j % 4 = r at hu hr
  match r, hu, hr with
  | 0, hu, _ => simp [cellLq] at hu; subst hu; exact c0
  | 1, hu, _ => simp [cellLq] at hu; subst hu; exact c1
  | 2, hu, _ => simp [cellLq] at hu; subst hu; exact c2
  | 3, hu, _ => simp [cellLq] at hu; subst hu; exact c3
  | r + 4, _, hr => omega
theorem src_four (w : World) (a b c d : Value) (t : TypeId) : Src (w.alloc (.cells #[a, b, c, d] t)) (.slice (some ⟨w.heap.size, 0, none⟩) 1 1) 1 [a, b, c, d] := by
  refine .inr ⟨w.heap.size, 0, 1, rfl, by simp, fun j u hj => ?_⟩
  have k := (Blk.new w #[a, b, c, d] t).cell j
  rw [Nat.zero_add, k, ← hj]
  simp
theorem own_new0 (w : World) {base : Nat} (hb : base ≤ w.heap.size) : (w.alloc (.cells #[] 37)).ownsRow base 37 4 (.slice (some ⟨w.heap.size, 0, none⟩) 0 0) 0 [] :=
  ⟨rfl, .inr ⟨w.heap.size, 0, _, rfl, hb, Blk.new w _ _, Nat.le_refl _, by unfold maxLen; omega, rfl, rfl⟩⟩
theorem run_append_emp (w : World) (t e ty : TypeId) (i : TypeInfo) (hu : Tryz.prog.underlying t = some (.slice e)) (hi : Tryz.prog.info? e = some i) {base k n : Nat} {v : Value} {xs : List Value} (h : w.ownsRow base e k v n xs) (la : Option Addr) (lc : Nat) :
    (Builtin.append_ #[t, t] ty #[v, .slice la 0 lc]).run Tryz.prog w = .ok v w := by
  rcases h.2 with ⟨h1, h2⟩ | ⟨g, cap, cur, h1, h2, h3, h4, h5, h6, h7⟩
  · subst h1
    cases la <;> simp [Builtin.append_, run_underlying hu, sizeOf, typeInfo, hi, Builtin.lenOf, Builtin.firstCells, loadCells, loadCellsFrom]
  · subst h1
    cases la <;> simp [Builtin.append_, run_underlying hu, sizeOf, typeInfo, hi, Builtin.lenOf, h4, Builtin.firstCells, loadCells, loadCellsFrom, storeCells]
theorem run_app_lf (w : World) (ty : TypeId) (base : Nat) (v0 : Value) (n0 : Nat) (xs0 : List Value) (hown : w.ownsRow base 37 4 v0 n0 xs0) (la : Option Addr) (n lc : Nat) (lv : Nat → Lf) (hsrc : LfRow w la n lv) (hl : n0 + n ≤ 1000000) (hbase : base ≤ w.heap.size) (nn : Nat) (hnn : n0 + n = nn) :
    ∃ oa c w', (Builtin.append_ #[22, 22] ty #[v0, .slice la n lc]).run Tryz.prog w = .ok (.slice oa nn c) w' ∧ w'.ownsRow base 37 4 (.slice oa nn c) nn (xs0 ++ cellsLq (lvL lv n)) ∧ w.grownBy w' v0.ownBlock ∧ ((Value.slice oa nn c).ownBlock = v0.ownBlock ∨ (Value.slice oa nn c).ownBlock = some w.heap.size) := by
  rcases Nat.eq_zero_or_pos n with rfl | h0
  · obtain ⟨i, hi, _, _, _⟩ := info_parts infoLf
    obtain ⟨oa, oc, rfl⟩ := own_slice hown
    subst hnn
    exact ⟨oa, oc, w, run_append_emp w _ _ ty i Tryz.underlying22 hi hown la lc, by simpa [lvL, cellsLq] using hown, ⟨rfl, rfl, rfl, Nat.le_refl _, fun _ _ _ => rfl⟩, .inl rfl⟩
  · exact run_app_gen w 22 37 ty 4 40 _ Tryz.underlying22 infoLf rfl (by omega) (by omega) base v0 n0 xs0 hown _ n _ (lfrow_src hsrc h0) (by rw [cellsLq_length, lvL_len]) (cellsLq_one _) hl hbase nn hnn
theorem wpl_app_lf {ops : Array Oper} {rest : List Oper} {o : Oper} {a : Act} {w : World} {Q : Exit → Act → World → Prop} (hgd : o.guard = none) (s x : Operand)
    (ho : o.op = .call { callee := .builtin .append, args := #[s, x], argTypes := #[22, 22] })
    (base : Nat) (v0 : Value) (n0 : Nat) (xs0 : List Value) (hs : a.eval s = v0) (hown : w.ownsRow base 37 4 v0 n0 xs0) (la : Option Addr) (n lc : Nat) (lv : Nat → Lf) (hx : a.eval x = .slice la n lc) (hsrc : LfRow w la n lv) (hl : n0 + n ≤ 1000000) (hbase : base ≤ w.heap.size) (nn : Nat) (hnn : n0 + n = nn)
    (h : ∀ oa c w', w'.ownsRow base 37 4 (.slice oa nn c) nn (xs0 ++ cellsLq (lvL lv n)) → w.grownBy w' v0.ownBlock → ((Value.slice oa nn c).ownBlock = v0.ownBlock ∨ (Value.slice oa nn c).ownBlock = some w.heap.size) → wpList Tryz.prog ops Q rest (a.put o.dst (.slice oa nn c)) w') : wpList Tryz.prog ops Q (o :: rest) a w := by
  refine wpList_plain hgd fun _ hK => ?_
  obtain ⟨oa, c, w', hr', h2, h3, h4⟩ := run_app_lf w o.type base v0 n0 xs0 hown la n lc lv hsrc hl hbase nn hnn
  unfold Oper.wp execOp
  simp only [ho, resolve, invoke, builtin, Sem.run_bind, Sem.run_pure, Result.andThen_ok, List.map_toArray, List.map_cons, List.map_nil, hs, hx, hr']
  exact hK _ _ (h oa c w' h2 h3 h4)
theorem wpl_app_gq {ops : Array Oper} {rest : List Oper} {o : Oper} {a : Act} {w : World} {Q : Exit → Act → World → Prop} (hgd : o.guard = none) (s x : Operand) (t e : TypeId) (k bytes : Nat) (z : Value)
    (ho : o.op = .call { callee := .builtin .append, args := #[s, x], argTypes := #[t, t] })
    (hu : Tryz.prog.underlying t = some (.slice e)) (hinfo : (Tryz.prog.info? e).map (fun i => (i.zero, i.size, i.bytes)) = some (some z, k, bytes)) (hzk : z.cells.size = k) (hk : 0 < k) (hby : bytes ≤ 1000)
    (base : Nat) (v0 : Value) (n0 : Nat) (xs0 : List Value) (hs : a.eval s = v0) (hown : w.ownsRow base e k v0 n0 xs0) (v1 : Value) (m : Nat) (news : List Value) (hx : a.eval x = v1) (hsrc : Src w v1 m news) (hlen : news.length = m * k) (h1 : ∀ u ∈ news, u.oneCell' = true) (hl : n0 + m ≤ 1000000) (hbase : base ≤ w.heap.size) (nn : Nat) (hnn : n0 + m = nn)
    (h : ∀ oa c w', w'.ownsRow base e k (.slice oa nn c) nn (xs0 ++ news) → w.grownBy w' v0.ownBlock → ((Value.slice oa nn c).ownBlock = v0.ownBlock ∨ (Value.slice oa nn c).ownBlock = some w.heap.size) → wpList Tryz.prog ops Q rest (a.put o.dst (.slice oa nn c)) w') : wpList Tryz.prog ops Q (o :: rest) a w := by
  refine wpList_plain hgd fun _ hK => ?_
  obtain ⟨oa, c, w', hr', h2, h3, h4⟩ := run_app_gen w t e o.type k bytes z hu hinfo hzk hk hby base v0 n0 xs0 hown v1 m news hsrc hlen h1 hl hbase nn hnn
  unfold Oper.wp execOp
  simp only [ho, resolve, invoke, builtin, Sem.run_bind, Sem.run_pure, Result.andThen_ok, List.map_toArray, List.map_cons, List.map_nil, hs, hx, hr']
  exact hK _ _ (h oa c w' h2 h3 h4)
/-! Both rows with a newline between them. -/
def nlF : Lf := ⟨2, ⟨#[10]⟩, 0, 0⟩
def linesL (n1 : Nat) (av : Nat → Lf) (n2 : Nat) (bv : Nat → Lf) : List Lf := lvL av n1 ++ [nlF] ++ lvL bv n2
section
variable {n1 n2 : Nat} {av bv : Nat → Lf}
theorem lines_len : (linesL n1 av n2 bv).length = n1 + 1 + n2 := by simp [linesL, lvL_len]; omega
theorem lines_a {i : Nat} (h : i < n1) : lfq (linesL n1 av n2 bv) i = av i := by
  unfold lfq linesL
  rw [List.getElem?_append_left (by simp [lvL_len]; omega), List.getElem?_append_left (by rw [lvL_len]; exact h), lvL_at h]
  rfl
theorem lines_n : lfq (linesL n1 av n2 bv) n1 = nlF := by
  unfold lfq linesL
  rw [List.getElem?_append_left (by simp [lvL_len]), List.getElem?_append_right (by rw [lvL_len]; exact Nat.le_refl _), lvL_len, Nat.sub_self]
  rfl
theorem lines_b {i : Nat} (h : i < n2) : lfq (linesL n1 av n2 bv) (i + (n1 + 1)) = bv i := by
  unfold lfq linesL
  rw [List.getElem?_append_right (by simp [lvL_len]), show i + (n1 + 1) - (lvL av n1 ++ [nlF]).length = i by simp [lvL_len], lvL_at h]
  rfl
theorem emb_a : Emb true n1 av (n1 + 1 + n2) (lfq (linesL n1 av n2 bv)) 0 := by
  refine ⟨fun i hi => ?_, ?_, ?_⟩
  · unfold lfA
    rw [if_pos (by omega), if_pos hi]
    exact lines_a hi
  · unfold lfA
    rw [if_pos (by omega)]
    show (lfq (linesL n1 av n2 bv) n1).k ≠ 6
    rw [lines_n]
    decide
  · unfold sgA lfA
    rw [if_pos (by omega)]
    show sgn (lfq (linesL n1 av n2 bv) n1).k (lfq (linesL n1 av n2 bv) n1).s = _
    rw [lines_n]
    rfl
theorem emb_b : Emb false n2 bv (n1 + 1 + n2) (lfq (linesL n1 av n2 bv)) (n1 + 1) := by
  refine ⟨fun i hi => ?_, ?_, ?_⟩
  · unfold lfA
    rw [if_pos (by omega), if_pos hi]
    exact lines_b hi
  · unfold lfA
    rw [if_neg (by omega)]
    decide
  · unfold sgA lfA
    rw [if_neg (by omega)]
    rfl
theorem lines_sml {b : Nat} (hb : 1 ≤ b) (hA : ∀ i, i < n1 → (av i).s.size ≤ b) (hB : ∀ i, i < n2 → (bv i).s.size ≤ b) (i : Nat) (hi : i < n1 + 1 + n2) : (lfq (linesL n1 av n2 bv) i).s.size ≤ b := by
  rcases Nat.lt_trichotomy i n1 with h | h | h
  · rw [lines_a h]; exact hA i h
  · rw [h, lines_n]; exact hb
  · obtain ⟨j, rfl⟩ : ∃ j, i = j + (n1 + 1) := ⟨i - (n1 + 1), by omega⟩
    rw [lines_b (by omega)]
    exact hB j (by omega)
end
/-! Counts. -/
def cnt4 (nv : Nat → Nd) : Nat → Nat
  | 0 => 0
  | k + 1 => cnt4 nv k + if (nv k).k = 4 then 1 else 0
theorem cnt4_le (nv : Nat → Nd) : ∀ k, cnt4 nv k ≤ k
  | 0 => Nat.le_refl _
  | k + 1 => by
    have := cnt4_le nv k
    unfold cnt4
    split <;> omega
theorem cnt4_count (L : List Nd) : ∀ j, j ≤ L.length → cnt4 (nl L) j = ((L.map Nd.k).take j).count 4
  | 0, _ => by simp [cnt4]
  | j + 1, h => by
    have hj : j < L.length := by omega
    rw [cnt4, cnt4_count L j (by omega), List.take_add_one, List.count_append, List.getElem?_map, List.getElem?_eq_getElem hj]
    have e : nl L j = L[j] := by unfold nl; rw [List.getElem?_eq_getElem hj]; rfl
    rw [e]
    simp only [Option.map_some, Option.toList_some, List.count_singleton, beq_iff_eq]
theorem cnt4_all (L : List Nd) : cnt4 (nl L) L.length = (L.map Nd.k).count 4 := by
  rw [cnt4_count L _ (Nat.le_refl _), List.take_of_length_le (by simp)]
theorem okK_iff (L : List Nd) : okK (L.map Nd.k) ↔ ∀ i, i < L.length → (nl L i).k ≠ 17 ∧ (nl L i).k ≠ 18 := by
  have e : ∀ i (h : i < L.length), nl L i = L[i] := fun i h => by unfold nl; rw [List.getElem?_eq_getElem h]; rfl
  constructor
  · intro h i hi
    rw [e i hi]
    exact h _ (List.mem_map_of_mem (List.getElem_mem hi))
  · intro h k hk
    obtain ⟨x, hx, rfl⟩ := List.mem_map.1 hk
    obtain ⟨i, hi, rfl⟩ := List.mem_iff_getElem.1 hx
    rw [← e i hi]
    exact h i hi
section
variable (w : World)
set_option maxRecDepth 100000 in
set_option maxHeartbeats 2000000 in
theorem pipes_any (oa : Option Addr) (n oc : Nat) (nv : Nat → Nd) (hl : NRow w oa n nv) (hn : n ≤ 1000000) :
    Calls Tryz.prog 22 #[.slice oa n oc] w fun e w' => e = .returned (.int .i64 (cnt4 nv n : Int)) ∧ w' = w := by
  have HL := Lib.hid hl
  clear hl
  go_enter Tryz.func22, Tryz.ntmps22
  go_wp2
  go_loopw [3, 4] (fun v3 v4 wr => ∃ i : Nat, i ≤ n ∧ v3 = .int .i64 (cnt4 nv i : Int) ∧ v4 = .int .i64 (i : Int) ∧ wr = w) (fun _ v4 _ => n - (intOf v4).toNat)
  case atStart => exact ⟨0, Nat.zero_le _, rfl, rfl, rfl⟩
  case round =>
    obtain ⟨i, hi, rfl, rfl, rfl⟩ := hrel
    by_cases hlt : i < n
    · have hp : (i : Int) < (n : Int) := by omega
      have q0 : (0 : Int) ≤ (i : Int) := by omega
      obtain ⟨b, off, hao, hbl, k0, k1, k2, k3⟩ := HL.out i hlt
      subst hao
      have hcs : cnt4 nv (i + 1) = cnt4 nv i + if (nv i).k = 4 then 1 else 0 := rfl
      have hle := cnt4_le nv i
      obtain ⟨x, hx⟩ : ∃ x, (nv i).k = x := ⟨_, rfl⟩
      obtain ⟨c, hc⟩ : ∃ c, cnt4 nv i = c := ⟨_, rfl⟩
      rw [hx] at k0 hcs
      rw [hc] at hcs hle ⊢
      have e1 : IntKind.i64.wrap ((i : Int) + 1) = ((i + 1 : Nat) : Int) := by rw [IntWalk.i64_in _ (by omega)]; rfl
      have e2 : IntKind.i64.wrap ((c : Int) + 1) = ((c + 1 : Nat) : Int) := by rw [IntWalk.i64_in _ (by omega)]; rfl
      clear hx hc k1 k2 k3
      by_cases h4 : x = 4
      · subst h4
        rw [if_pos rfl] at hcs
        have HCS := Lib.hid hcs
        clear hcs
        go_wp2
        go_roundw
        case rel => exact ⟨i + 1, by omega, by rw [HCS.out]; rfl, by first | rfl | trivial, by first | rfl | trivial⟩
        case measure => simp [intOf]; omega
      · have u : (x == 4) = false := by simpa using h4
        rw [if_neg h4] at hcs
        have HCS := Lib.hid hcs
        clear hcs h4
        go_wp2
        go_roundw
        case rel => exact ⟨i + 1, by omega, by rw [HCS.out]; rfl, by first | rfl | trivial, by first | rfl | trivial⟩
        case measure => simp [intOf]; omega
    · obtain rfl : i = n := by omega
      go_wp2
      go_ret
      exact ⟨rfl, rfl⟩
set_option maxRecDepth 100000 in
set_option maxHeartbeats 2000000 in
theorem refclean_any (oa : Option Addr) (n oc : Nat) (nv : Nat → Nd) (hl : NRow w oa n nv) (hn : n ≤ 1000000) :
    Calls Tryz.prog 21 #[.slice oa n oc] w fun e w' => (∃ b, e = .returned (.bool b) ∧ (b = true ↔ ∀ i, i < n → (nv i).k ≠ 17 ∧ (nv i).k ≠ 18)) ∧ w' = w := by
  have HL := Lib.hid hl
  clear hl
  go_enter Tryz.func21, Tryz.ntmps21
  go_wp2
  go_loopw [3] (fun v3 wr => ∃ i : Nat, i ≤ n ∧ v3 = .int .i64 (i : Int) ∧ (∀ j, j < i → (nv j).k ≠ 17 ∧ (nv j).k ≠ 18) ∧ wr = w) (fun v3 _ => n - (intOf v3).toNat)
  case atStart => exact ⟨0, Nat.zero_le _, rfl, fun j hj => by omega, rfl⟩
  case round =>
    obtain ⟨i, hi, rfl, hall, rfl⟩ := hrel
    have HA := Lib.hid hall
    clear hall
    by_cases hlt : i < n
    · have hp : (i : Int) < (n : Int) := by omega
      have q0 : (0 : Int) ≤ (i : Int) := by omega
      obtain ⟨b, off, hao, hbl, k0, k1, k2, k3⟩ := HL.out i hlt
      subst hao
      obtain ⟨x, hx⟩ : ∃ x, (nv i).k = x := ⟨_, rfl⟩
      have HX := Lib.hid hx
      rw [hx] at k0
      have e1 : IntKind.i64.wrap ((i : Int) + 1) = ((i + 1 : Nat) : Int) := by rw [IntWalk.i64_in _ (by omega)]; rfl
      clear hx k1 k2 k3
      by_cases h17 : x = 17
      · subst h17
        go_wp2
        go_ret
        exact ⟨⟨_, rfl, by simp; exact ⟨i, hlt, fun h => absurd HX.out h⟩⟩, rfl⟩
      · have u1 : (x == 17) = false := by simpa using h17
        by_cases h18 : x = 18
        · subst h18
          clear h17
          go_wp2
          go_ret
          exact ⟨⟨_, rfl, by simp; exact ⟨i, hlt, fun _ => HX.out⟩⟩, rfl⟩
        · have u2 : (x == 18) = false := by simpa using h18
          have HN := Lib.hid (And.intro h17 h18)
          clear h17 h18
          go_wp2
          go_roundw
          case rel =>
            refine ⟨i + 1, by omega, by first | rfl | trivial, fun j hj => ?_, by first | rfl | trivial⟩
            by_cases g : j = i
            · rw [g, HX.out]; exact HN.out
            · exact HA.out j (by omega)
          case measure => simp [intOf]; omega
    · obtain rfl : i = n := by omega
      go_wp2
      go_ret
      exact ⟨⟨_, rfl, by simp; exact HA.out⟩, rfl⟩
end
end Go.Proofs.YtkolpaonccmgiaaGreatDoor.Q

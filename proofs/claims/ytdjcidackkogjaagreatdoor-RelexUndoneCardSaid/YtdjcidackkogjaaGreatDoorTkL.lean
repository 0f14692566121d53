/- What tokens of layer 9 (token) yields: each token with the lexing behind it, as it lies in memory. Condition: texts of at most 900 bytes; the program's table of operators lies as start-up lays it.
What Lex of layer 9 (token) returns: a text's tokens, and the lexing behind them. Condition: texts of at most 900 bytes; the program's table of operators lies as start-up lays it.
What the statements' own awake of layer 9 returns, and Text of layer 9 (token) at a token that stands in its text. Condition: texts of at most 900 bytes; the program's table of operators lies as start-up lays it. -/
import Derived.Test.YtdjcidackkogjaaGreatDoorTkE
import Derived.Test.YtdjcidackkogjaaGreatDoorLtR
import Derived.OwnWalkIn
namespace Go.Proofs.YtdjcidackkogjaaGreatDoor
open Go.RowKit
set_option linter.unusedVariables false
set_option linter.unusedSectionVars false

theorem tksF_more (s : ByteArray) : ∀ (k a j : Nat) (x : Lx), s.size - a ≤ k → k ≤ j → tksF s j a x = tksF s k a x
  | 0, a, 0, _, _, _ => rfl
  | 0, a, j + 1, x, h, _ => by
    show (if a < s.size then _ else _) = _
    rw [if_neg (by omega)]; rfl
  | k + 1, a, 0, _, _, h => by omega
  | k + 1, a, j + 1, x, h1, h2 => by
    unfold tksF
    by_cases h : a < s.size
    · rw [if_pos h, if_pos h]
      have := (tkN_ok x h).2
      rw [tksF_more s k _ j _ (by omega) (by omega)]
    · rw [if_neg h, if_neg h]
theorem tksF_next {s : ByteArray} {a : Nat} (x : Lx) (h : a < s.size) : tksF s (s.size - a) a x = (tkN s a x, nxN s a x) :: tksF s (s.size - (tkN s a x).en) (tkN s a x).en (nxN s a x) := by
  have hg := (tkN_ok x h).2
  obtain ⟨k, hk⟩ : ∃ k, s.size - a = k + 1 := ⟨s.size - a - 1, by omega⟩
  rw [hk]
  conv => lhs; unfold tksF
  rw [if_pos h, tksF_more s _ _ _ _ (Nat.le_refl _) (by omega)]
theorem tksF_end {s : ByteArray} {a : Nat} (x : Lx) (h : ¬ a < s.size) : tksF s (s.size - a) a x = [] := by
  rw [show s.size - a = 0 by omega]; rfl
theorem lxN_ok (x : Lx) (k : Nat) (op : Bool) (text : ByteArray) {a e : Nat} (hp : x.pend.length ≤ a) (he : a < e) (ha : x.await ≤ 1000) : (lxN x k op text).pend.length ≤ e ∧ (lxN x k op text).await ≤ 1000 := by
  have h17 : (if ofN text = 4 ∨ ofN text = 5 then ofN text else 0) ≤ 1000 := by
    generalize ofN text = o
    split <;> omega
  have hx : x.pend.length ≤ e := by omega
  unfold lxN
  split
  · split
    · exact ⟨hx, ha⟩
    · refine ⟨?_, ha⟩
      show x.pend.tail.length ≤ _
      rw [List.length_tail]
      omega
  split
  · exact ⟨hx, ha⟩
  split
  · exact ⟨hx, Nat.zero_le _⟩
  split
  · exact ⟨hx, h17⟩
  split
  · refine ⟨?_, Nat.zero_le _⟩
    show (x.pend ++ [_]).length ≤ _
    rw [List.length_append]
    show x.pend.length + 1 ≤ e
    omega
  · exact ⟨hx, Nat.zero_le _⟩
theorem nxN_ok {s : ByteArray} {a : Nat} (x : Lx) (h : a < s.size) (hp : x.pend.length ≤ a) (ha : x.await ≤ 1000) : (nxN s a x).pend.length ≤ (tkN s a x).en ∧ (nxN s a x).await ≤ 1000 :=
  lxN_ok x _ _ _ hp (tkN_ok x h).2.1 ha
end Go.Proofs.YtdjcidackkogjaaGreatDoor
namespace Go.Proofs.YtdjcidackkogjaaGreatDoor
open Go.RowKit Go.Shelf
set_option linter.unusedVariables false
set_option linter.unusedSectionVars false
attribute [local go_sem] Oper.semAt_some

theorem infoTk : (Tryz.prog.info? 44).map (fun i => (i.zero, i.size, i.bytes)) = some (some (.agg #[.int .i64 0, .int .i64 0, .int .i64 0, .bool false]), 4, 32) := by kernel_rfl
theorem wplIn_apg {F : Fence} {fn : Nat} {ops : Array Oper} {rest : List Oper} {o : Oper} {a : Act} {w : World} {Q : Exit → Act → World → Prop} (hgd : o.guard = none) (s x : Operand) (t e : TypeId) (k bytes : Nat) (z : Value)
    (ho : o.op = .call { callee := .builtin .append, args := #[s, x], argTypes := #[t, t] })
    (hu : Tryz.prog.underlying t = some (.slice e)) (hinfo : (Tryz.prog.info? e).map (fun i => (i.zero, i.size, i.bytes)) = some (some z, k, bytes)) (hzk : z.cells.size = k) (hk : 0 < k) (hby : bytes ≤ 1000)
    (base : Nat) (v0 : Value) (n0 : Nat) (xs0 : List Value) (hs : a.eval s = v0) (hown : w.ownsRow base e k v0 n0 xs0) (v1 : Value) (m : Nat) (news : List Value) (hx : a.eval x = v1) (hsrc : Src w v1 m news) (hlen : news.length = m * k) (h1 : ∀ u ∈ news, u.oneCell' = true) (hl : n0 + m ≤ 1000000) (hbase : base ≤ w.heap.size) (nn : Nat) (hnn : n0 + m = nn)
    (h : ∀ oa c w', w'.ownsRow base e k (.slice oa nn c) nn (xs0 ++ news) → w.grownBy w' v0.ownBlock → ((Value.slice oa nn c).ownBlock = v0.ownBlock ∨ (Value.slice oa nn c).ownBlock = some w.heap.size) → wpListIn F fn Tryz.prog ops Q rest (a.put o.dst (.slice oa nn c)) w') : wpListIn F fn Tryz.prog ops Q (o :: rest) a w := by
  refine wpListIn_plain hgd fun K hK' => ?_
  obtain ⟨oa, c, w', hrun, h2, h3, h4⟩ := run_app_gen w t e o.type k bytes z hu hinfo hzk hk hby base v0 n0 xs0 hown v1 m news hsrc hlen h1 hl hbase nn hnn
  unfold Oper.wpIn
  refine ⟨?_, ?_⟩
  · simp [Oper.about, ho, resolve, Target.leads, Sem.run_pure]
  · rw [Oper.semAt_plain F _ _ (by rw [ho]; intro c hc'; cases hc')]
    simp [execOp, ho, resolve, invoke, builtin, hs, hx, hrun, Result.andThen]
    exact hK' _ _ (h oa c w' h2 h3 h4)
def cellT (t : Tk) : List Value := [.int .i64 (t.kind : Int), .int .i64 (t.frm : Int), .int .i64 (t.en : Int), .bool t.op]
def cellsT (l : List Tk) : List Value := l.flatMap cellT
def lstX (l : List (Tk × Lx)) : Lx := match l.getLast? with
  | some q => q.2
  | none => Lx.zero
def LgI (w : World) (z Br Ba Bl : Nat) (prs : List ((Tk × Lx) × Array Value)) (T : Nat → Prop) (W : World) : Prop :=
  ∃ v oa n c, Blk W Ba #[v] 39 ∧ W.ownsRow (z + 2) 44 4 v prs.length (cellsT (prs.map fun p => p.1.1)) ∧ Blk W Bl #[.int .i64 ((lstX (prs.map Prod.fst)).await : Int), .slice oa n c, .bool (lstX (prs.map Prod.fst)).body] 50 ∧
    Blk W Br #[.int .i64 0, .slice none 0 0, .bool false] 50 ∧ (∀ g, v.ownBlock = some g → ¬ T g) ∧ (∀ b, T b → z + 2 ≤ b) ∧ z + 2 ≤ W.heap.size ∧ Below w.heap.size w W ∧ (prs = [] → Value.slice oa n c = .slice none 0 0) ∧ ∀ q vs, prs.getLast? = some (q, vs) → vs = #[aggT q.1, aggL q.2 (.slice oa n c)]
theorem LgI.abid {w : World} {z Br Ba Bl : Nat} (hr : Br < z) (hb : Ba < z) (hl : Bl < z) (hw : w.heap.size ≤ z) : AbidL (z + 1) (LgI w z Br Ba Bl) := by
  rintro pre T W W' T' ⟨v, oa, n, c, h1, h3, k1, k2, h2, hT, hzW, hB, hq, hz⟩ hf hT'
  have no : ∀ b, b < z → ¬ (T b ∨ b = z + 1) := fun b hb hh => by rcases hh with g | g; have := hT b g; omega; omega
  refine ⟨v, oa, n, c, h1.frm hf (no _ hb), own_frm hf h3 (fun g hg hh => ?_), k1.frm hf (no _ hl), k2.frm hf (no _ hr), fun g hg hh => ?_, fun b hb => ?_, ?_, ?_, hq, hz⟩
  · rcases hh with e | e
    · exact h2 g hg e
    · have := own_ge h3 g hg; omega
  · rcases hT' g hh with e | e
    · exact h2 g hg e
    · have := own_lt h3 g hg; omega
  · rcases hT' b hb with e | e
    · exact hT b e
    · omega
  · have := hf.size; omega
  · exact hB.trans ((hf.below (n := w.heap.size) hB.size (fun b hh => by rcases hh with e | e; have := hT b e; omega; omega)))
end Go.Proofs.YtdjcidackkogjaaGreatDoor
namespace Go.Proofs.YtdjcidackkogjaaGreatDoor
open Go.RowKit
set_option linter.unusedVariables false
set_option linter.unusedSectionVars false

def RdT (W : World) (v : Value) (l : List Tk) : Prop :=
  (v = .slice none 0 0 ∧ l = []) ∨ ∃ b off c, v = .slice (some ⟨b, off, none⟩) l.length c ∧ b < W.heap.size ∧ ∀ j t, l[j]? = some t → W.cell? ⟨b, off + j * 4, none⟩ = some (.int .i64 (t.kind : Int)) ∧ W.cell? ⟨b, off + j * 4 + 1, none⟩ = some (.int .i64 (t.frm : Int)) ∧ W.cell? ⟨b, off + j * 4 + 2, none⟩ = some (.int .i64 (t.en : Int)) ∧ W.cell? ⟨b, off + j * 4 + 3, none⟩ = some (.bool t.op)
theorem cellsT_get : ∀ (l : List Tk) (j k : Nat) (t : Tk), l[j]? = some t → k < 4 → (cellsT l)[j * 4 + k]? = (cellT t)[k]?
  | [], j, k, t, h, _ => by cases h
  | a :: l, 0, k, t, h, hk => by
    cases h
    show (cellT a ++ cellsT l)[0 * 4 + k]? = _
    rw [List.getElem?_append_left (by show 0 * 4 + k < 4; omega), Nat.zero_mul, Nat.zero_add]
  | a :: l, j + 1, k, t, h, hk => by
    show (cellT a ++ cellsT l)[(j + 1) * 4 + k]? = _
    rw [List.getElem?_append_right (by show 4 ≤ _; omega), show (j + 1) * 4 + k - (cellT a).length = j * 4 + k from by show (j + 1) * 4 + k - 4 = _; omega]
    exact cellsT_get l j k t h hk
theorem RdT.of_own {W : World} {base : Nat} {v : Value} {l : List Tk} (h : W.ownsRow base 44 4 v l.length (cellsT l)) : RdT W v l := by
  rcases Src.of_own h with ⟨h1, h2, _⟩ | ⟨b, off, c, h1, h2, h3⟩
  · exact .inl ⟨h1, List.eq_nil_of_length_eq_zero h2⟩
  · refine .inr ⟨b, off, c, h1, h2, fun j t hj => ?_⟩
    have g := fun k hk => cellsT_get l j k t hj hk
    refine ⟨h3 (j * 4) _ (g 0 (by omega)), ?_, ?_, ?_⟩
    · exact h3 (j * 4 + 1) _ (g 1 (by omega))
    · exact h3 (j * 4 + 2) _ (g 2 (by omega))
    · exact h3 (j * 4 + 3) _ (g 3 (by omega))
theorem RdT.below {W W' : World} {v : Value} {l : List Tk} (h : RdT W v l) (hb : Below W.heap.size W W') : RdT W' v l := by
  rcases h with h | ⟨b, off, c, h1, h2, h3⟩
  · exact .inl h
  · have e : ∀ o, W'.cell? ⟨b, o, none⟩ = W.cell? ⟨b, o, none⟩ := fun o => hb.cell (p := ⟨b, o, none⟩) h2
    exact .inr ⟨b, off, c, h1, Nat.lt_of_lt_of_le h2 hb.size, fun j t hj => by rw [e, e, e, e]; exact h3 j t hj⟩
set_option maxHeartbeats 400000 in
theorem tclone_any (s : ByteArray) (w : World) (hlim : s.size ≤ 281474976710656) :
    Calls Tryz.prog 33 #[.string s] w fun e w' => e = .returned (.string s) ∧ Below w.heap.size w w' := by
  go_enter Tryz.func33, Tryz.ntmps33
  go_wp2_with (go_at_call 45; refine (Tryz.stringslite_Clone s _ hlim).mono ?_; rintro e w1 ⟨rfl, hb⟩)
  go_ret
  exact ⟨rfl, hb⟩
end Go.Proofs.YtdjcidackkogjaaGreatDoor

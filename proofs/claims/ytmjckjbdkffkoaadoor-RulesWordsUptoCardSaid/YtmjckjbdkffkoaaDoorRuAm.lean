/- What the law RulesWords of layer 12 (rules) returns. Condition: the program's tables lie as start-up lays them; at most 1,100,000 texts. -/
import Derived.Test.YtmjckjbdkffkoaaDoorRuAg
namespace Go.Proofs.YtmjckjbdkffkoaaDoor
open Go.RowKit
set_option linter.unusedVariables false

theorem run_app_big (w : World) (t e ty : TypeId) (k bytes : Nat) (z : Value) (hu : Tryd.prog.underlying t = some (.slice e)) (hinfo : (Tryd.prog.info? e).map (fun i => (i.zero, i.size, i.bytes)) = some (some z, k, bytes)) (hzk : z.cells.size = k) (hk : 0 < k) (hby : bytes ≤ 1000)
    (base : Nat) (v0 : Value) (n0 : Nat) (xs0 : List Value) (hown : w.ownsRow base e k v0 n0 xs0) (v1 : Value) (m : Nat) (news : List Value) (hsrc : Src w v1 m news) (hlen : news.length = m * k) (h1 : ∀ u ∈ news, u.oneCell' = true) (hl : n0 + m ≤ 2000000) (hbase : base ≤ w.heap.size) (nn : Nat) (hnn : n0 + m = nn) :
    ∃ oa c w', (Builtin.append_ #[t, t] ty #[v0, v1]).run Tryd.prog w = .ok (.slice oa nn c) w' ∧ w'.ownsRow base e k (.slice oa nn c) nn (xs0 ++ news) ∧ w.grownBy w' v0.ownBlock ∧ ((Value.slice oa nn c).ownBlock = v0.ownBlock ∨ (Value.slice oa nn c).ownBlock = some w.heap.size) := by
  obtain ⟨i, hi, hz, hsize, hbyt⟩ := info_parts hinfo
  subst hnn
  rcases hsrc with ⟨rfl, rfl, rfl⟩ | ⟨b, off, c, rfl, hb, hc⟩
  · obtain ⟨oa, oc, rfl⟩ := own_slice hown
    exact ⟨oa, oc, w, run_append_nilsrc w t e ty i hu hi hown, by simpa using hown, ⟨rfl, rfl, rfl, Nat.le_refl _, fun _ _ _ => rfl⟩, .inl rfl⟩
  · have hmb : (n0 + m) * bytes ≤ 2000000 * 1000 := Nat.mul_le_mul hl hby
    obtain ⟨v', w', hr', h2, h3, _, h5⟩ := run_append_own_at (P := Tryd.prog) w base t ty e i z k bytes hu hi hz hsize hbyt hzk hk v0 n0 xs0 hown ⟨b, off, none⟩ m c news hlen (fun j u hj => by rw [Addr.add_lit]; exact hc j u hj) h1 (by unfold maxLen; omega) (by omega) hbase
    obtain ⟨oa, oc, rfl⟩ := own_slice h2
    exact ⟨oa, oc, w', hr', h2, h3, h5⟩
theorem wp_app_big {o : Oper} {a : Act} {w : World} {K : Act → World → Prop} {Q : Exit → Act → World → Prop} (s x : Operand) (t e : TypeId) (k bytes : Nat) (z : Value)
    (ho : o.op = .call { callee := .builtin .append, args := #[s, x], argTypes := #[t, t] })
    (hu : Tryd.prog.underlying t = some (.slice e)) (hinfo : (Tryd.prog.info? e).map (fun i => (i.zero, i.size, i.bytes)) = some (some z, k, bytes)) (hzk : z.cells.size = k) (hk : 0 < k) (hby : bytes ≤ 1000)
    (base : Nat) (v0 : Value) (n0 : Nat) (xs0 : List Value) (hs : a.eval s = v0) (hown : w.ownsRow base e k v0 n0 xs0) (v1 : Value) (m : Nat) (news : List Value) (hx : a.eval x = v1) (hsrc : Src w v1 m news) (hlen : news.length = m * k) (h1 : ∀ u ∈ news, u.oneCell' = true) (hl : n0 + m ≤ 2000000) (hbase : base ≤ w.heap.size) (nn : Nat) (hnn : n0 + m = nn)
    (h : ∀ oa c w', w'.ownsRow base e k (.slice oa nn c) nn (xs0 ++ news) → w.grownBy w' v0.ownBlock → ((Value.slice oa nn c).ownBlock = v0.ownBlock ∨ (Value.slice oa nn c).ownBlock = some w.heap.size) → K (a.put o.dst (.slice oa nn c)) w') : o.wp Tryd.prog a w K Q := by
  obtain ⟨oa, c, w', hr', h2, h3, h4⟩ := run_app_big w t e o.type k bytes z hu hinfo hzk hk hby base v0 n0 xs0 hown v1 m news hsrc hlen h1 hl hbase nn hnn
  unfold Oper.wp execOp
  simp only [ho, resolve, invoke, builtin, Sem.run_bind, Sem.run_pure, Result.andThen_ok, List.map_toArray, List.map_cons, List.map_nil, hs, hx, hr']
  exact h oa c w' h2 h3 h4
theorem wpl_app_big {ops : Array Oper} {rest : List Oper} {o : Oper} {a : Act} {w : World} {Q : Exit → Act → World → Prop} (hgd : o.guard = none) (s x : Operand) (t e : TypeId) (k bytes : Nat) (z : Value)
    (ho : o.op = .call { callee := .builtin .append, args := #[s, x], argTypes := #[t, t] })
    (hu : Tryd.prog.underlying t = some (.slice e)) (hinfo : (Tryd.prog.info? e).map (fun i => (i.zero, i.size, i.bytes)) = some (some z, k, bytes)) (hzk : z.cells.size = k) (hk : 0 < k) (hby : bytes ≤ 1000)
    (base : Nat) (v0 : Value) (n0 : Nat) (xs0 : List Value) (hs : a.eval s = v0) (hown : w.ownsRow base e k v0 n0 xs0) (v1 : Value) (m : Nat) (news : List Value) (hx : a.eval x = v1) (hsrc : Src w v1 m news) (hlen : news.length = m * k) (h1 : ∀ u ∈ news, u.oneCell' = true) (hl : n0 + m ≤ 2000000) (hbase : base ≤ w.heap.size) (nn : Nat) (hnn : n0 + m = nn)
    (h : ∀ oa c w', w'.ownsRow base e k (.slice oa nn c) nn (xs0 ++ news) → w.grownBy w' v0.ownBlock → ((Value.slice oa nn c).ownBlock = v0.ownBlock ∨ (Value.slice oa nn c).ownBlock = some w.heap.size) → wpList Tryd.prog ops Q rest (a.put o.dst (.slice oa nn c)) w') : wpList Tryd.prog ops Q (o :: rest) a w :=
  wpList_plain hgd fun _ hK => wp_app_big s x t e k bytes z ho hu hinfo hzk hk hby base v0 n0 xs0 hs hown v1 m news hx hsrc hlen h1 hl hbase nn hnn fun oa c w' h2 h3 h4 => hK _ _ (h oa c w' h2 h3 h4)
section
variable (w : World)
set_option maxRecDepth 100000 in
set_option maxHeartbeats 4000000 in
theorem words_big (ao : Option Addr) (n cap : Nat) (tx : Nat → ByteArray) (hr : SRow w ao n tx) (hn : n ≤ 1100000) :
    Calls Tryd.prog 25 #[.slice ao n cap] w fun e w' => ∃ oa oc, e = .returned (.slice oa n oc) ∧ LfRow w' oa n (lfl (wrdL tx n)) ∧ Below w.heap.size w w' := by
  have HR := Lib.hid hr
  clear hr
  go_enter Tryd.func25, Tryd.ntmps25
  go_wp2
  go_loopw [3, 4] (fun v3 v4 wr => WdR w n tx v3 v4 wr) (fun _ v4 _ => n - (intOf v4).toNat)
  case atStart => exact ⟨0, _, _, by omega, rfl, rfl, World.ownsRow_nil _ _ _ _, Below.refl _ _⟩
  case round =>
    obtain ⟨i, oa, oc, hi, rfl, rfl, hO, hB⟩ := hrel
    by_cases hlt : i < n
    · have hp : (i : Int) < (n : Int) := by omega
      have q0 : (0 : Int) ≤ (i : Int) := by omega
      have e1 : IntKind.i64.wrap ((i : Int) + 1) = (i : Int) + 1 := IntWalk.i64_in _ (by omega)
      obtain ⟨b, off, rfl, hbl, hc⟩ := (HR.out.below hB) i hlt
      have HO := Lib.hid hO
      have HB := Lib.hid hB
      have HBS := Lib.hid hB.size
      clear hO hB
      go_wp2_with (at_builtin; go_must (refine wpl_app_big rfl _ _ 40 35 4 40 _ rfl Tryd.underlying40 infoLf rfl (by omega) (by omega) w.heap.size (.slice oa i oc) i (cellsF (wrdL tx i)) rfl (own_allocI HO.out _) _ 1 [.int .i64 6, .string (tx i), .int .i64 0, .int .i64 0] rfl (src_four _ _ _ _ _ _) rfl (by simp [Value.oneCell']) (by omega) (by rw [World.size_alloc]; have := HBS.out; omega) (i + 1) rfl ?_); rintro oa3 c3 W6 how hgr hob)
      have hFx := (Frm.of_below (p := fun b => (Value.slice oa i oc).ownBlock = some b) ((Below.refl _ wr).alloc (Nat.le_refl _) (.cells #[.int .i64 6, .string (tx i), .int .i64 0, .int .i64 0] 35))).grown hgr (fun b hb => .inl hb)
      refine ⟨⟨i + 1, oa3, c3, by omega, by rw [show ((i + 1 : Nat) : Int) = (i : Int) + 1 from by omega], rfl, by rw [wrdL_next, cellsF_append]; exact how, HB.out.trans (hFx.below HB.out.size (fun b hb => own_ge HO.out b hb))⟩, by simp [intOf]; omega⟩
    · obtain rfl : i = n := by omega
      have HO := Lib.hid hO
      have HB := Lib.hid hB
      clear hO hB
      have hp : ¬ (i : Int) < (i : Int) := by omega
      go_wp2
      go_ret
      exact ⟨oa, ⟨oc, rfl⟩, (owns_lfrow HO.out).2, HB.out⟩
set_option maxRecDepth 100000 in
set_option maxHeartbeats 2000000 in
theorem short_any (oa : Option Addr) (n oc : Nat) (lv : Nat → Lf) (hl : LfRow w oa n lv) (hn : n ≤ 1100000) :
    Calls Tryd.prog 19 #[.slice oa n oc, .int .i64 20] w fun e w' => RetB e (n ≤ 20 ∧ ∀ i, i < n → (lv i).s.size ≤ 60) ∧ w' = w := by
  have HL := Lib.hid hl
  clear hl
  by_cases h20 : n ≤ 20
  · have d1 : decide ((20 : Int) < (n : Int)) = false := decide_eq_false (by omega)
    have d1' : ¬ (20 : Int) < (n : Int) := by omega
    go_enter Tryd.func19, Tryd.ntmps19
    go_wp2
    go_loopw [5] (fun v3 wr => ∃ i : Nat, i ≤ n ∧ v3 = .int .i64 (i : Int) ∧ (∀ j, j < i → (lv j).s.size ≤ 60) ∧ wr = w) (fun v3 _ => n - (intOf v3).toNat)
    case atStart => exact ⟨0, by omega, rfl, fun j hj => by omega, rfl⟩
    case round =>
      obtain ⟨i, hi, rfl, hall, rfl⟩ := hrel
      have HA := Lib.hid hall
      clear hall
      by_cases hlt : i < n
      · have hp : (i : Int) < (n : Int) := by omega
        have q0 : (0 : Int) ≤ (i : Int) := by omega
        obtain ⟨b, off, rfl, hbl, k0, k1, k2, k3⟩ := HL.out i hlt
        have e1 : IntKind.i64.wrap ((i : Int) + 1) = (i : Int) + 1 := IntWalk.i64_in _ (by omega)
        by_cases h60 : (lv i).s.size ≤ 60
        · have d2 : decide ((60 : Int) < ((lv i).s.size : Int)) = false := decide_eq_false (by omega)
          have d2' : ¬ (60 : Int) < ((lv i).s.size : Int) := by omega
          have H60 := Lib.hid h60
          clear h60
          go_wp2
          refine ⟨⟨i + 1, by omega, by rw [show ((i + 1 : Nat) : Int) = (i : Int) + 1 from by omega], fun j hj => ?_, by first | rfl | trivial⟩, by simp [intOf]; omega⟩
          by_cases g : j = i
          · rw [g]; exact H60.out
          · exact HA.out j (by omega)
        · have d2 : decide ((60 : Int) < ((lv i).s.size : Int)) = true := decide_eq_true (by omega)
          have d2' : (60 : Int) < ((lv i).s.size : Int) := by omega
          have H60 := Lib.hid h60
          clear h60
          go_wp2
          go_ret
          exact ⟨⟨false, rfl, by simp, fun h => absurd (h.2 i hlt) H60.out⟩, rfl⟩
      · obtain rfl : i = n := by omega
        have hp : ¬ (i : Int) < (i : Int) := by omega
        go_wp2
        go_ret
        exact ⟨⟨true, rfl, fun _ => by first | exact ⟨h20, HA.out⟩ | exact HA.out, fun _ => rfl⟩, rfl⟩
  · have d1 : decide ((20 : Int) < (n : Int)) = true := decide_eq_true (by omega)
    have d1' : (20 : Int) < (n : Int) := by omega
    have H20 := Lib.hid h20
    clear h20
    go_enter Tryd.func19, Tryd.ntmps19
    go_wp2
    go_ret
    exact ⟨⟨false, rfl, by simp, fun h => absurd h.1 H20.out⟩, rfl⟩
set_option maxRecDepth 100000 in
set_option maxHeartbeats 4000000 in
theorem rulesWords_law (ao : Option Addr) (n cap : Nat) (tx : Nat → ByteArray) (hr : SRow w ao n tx) (hn : n ≤ 1100000) (hN : Nm w) (hT : Tx w) :
    Calls Tryd.prog 7 #[.slice ao n cap] w fun e w' => e = .returned (.bool true) ∧ Below w.heap.size w w' := by
  have HAW := Lib.hid (awake_any w hN hT)
  have HT := Lib.hid hT
  have HR := Lib.hid hr
  clear hr hN hT
  go_enter Tryd.func7, Tryd.ntmps7
  go_wp2_with fail
  refine HAW.out.mono ?_
  rintro e w2 ⟨rfl, hb2⟩
  have HB2 := Lib.hid hb2
  have HR2 := Lib.hid (HR.out.below hb2)
  clear hb2
  go_wp2_with fail
  refine (words_big w2 ao n cap tx HR2.out hn).mono ?_
  rintro e w3 ⟨oa, oc, rfl, hl, hb3⟩
  have HL := Lib.hid hl
  have HB3 := Lib.hid (HB2.out.trans (hb3.mono HB2.out.size))
  have HR3 := Lib.hid (HR2.out.below hb3)
  clear hl hb3
  go_wp2_with fail
  refine (short_any w3 oa n oc _ HL.out hn).mono ?_
  rintro e w4 ⟨⟨bs, rfl, hbs⟩, rfl⟩
  cases bs
  · clear hbs
    go_wp2
    go_ret
    exact ⟨rfl, HB3.out⟩
  obtain ⟨h20, hall⟩ := hbs.1 rfl
  have hsz : ∀ i, i < n → (tx i).size ≤ 60 := fun i hi => by have := hall i hi; rwa [wrdL_at hi] at this
  have HRR := fun (W : World) (ob : Option Addr) (oc2 : Nat) (hW : Below w4.heap.size w4 W) (h : NRow W ob (n + 5) (smN n)) => rright_smp W oa oc (lfl (wrdL tx n)) ob n oc2 tx (HL.out.below hW) (fun i hi => wrdL_at hi) h (HT.out.b (HB3.out.trans (hW.mono HB3.out.size))) (by omega) (fun i hi => by have := hsz i hi; omega)
  clear hbs hall
  rcases Nat.eq_zero_or_pos n with h0 | h0
  · have e0 : ∀ c : Bool, (decide (0 < n) && c) = false := fun c => by rw [h0]; rfl
    simp only [e0] at HRR
    have HRH := Lib.hid HRR
    have d0 : decide ((0 : Int) < (n : Int)) = false := decide_eq_false (by omega)
    have d0' : ¬ (0 : Int) < (n : Int) := by omega
    have H20 := Lib.hid h20
    clear HRR e0 hsz h0 h20
    go_wp2_with fail
    refine (simple_any w4 n (by have := H20.out; omega)).mono ?_
    rintro e w5 ⟨ob, oc2, rfl, hn5, hb5⟩
    have HB5 := Lib.hid (HB3.out.trans (hb5.mono HB3.out.size))
    have HRX := Lib.hid (HRH.out w5 ob oc2 hb5 hn5)
    clear hn5 hb5
    go_wp2_with fail
    refine HRX.out.mono ?_
    rintro e w6 ⟨rfl, hb6⟩
    go_wp2
    go_ret
    exact ⟨rfl, HB5.out.trans (hb6.mono HB5.out.size)⟩
  · rw [decide_eq_true h0] at HRR
    simp only [Bool.true_and] at HRR
    obtain ⟨b, off, rfl, hbl, c0⟩ := HR3.out 0 h0
    rw [Nat.add_zero] at c0
    have d0 : decide ((0 : Int) < (n : Int)) = true := decide_eq_true (by omega)
    have d0' : (0 : Int) < (n : Int) := by omega
    have s0 := hsz 0 h0
    have HRS := Lib.hid (refreserved_any (tx 0) w4 (by omega))
    have HAS := Lib.hid (refassign_any (tx 0) w4 (by omega))
    obtain ⟨s, hs⟩ : ∃ s, tx 0 = s := ⟨_, rfl⟩
    rw [hs] at HRS HAS c0
    simp only [hs] at HRR
    obtain ⟨r, hr⟩ : ∃ r, resB s = r := ⟨_, rfl⟩
    obtain ⟨a, ha⟩ : ∃ a, assignN s = a := ⟨_, rfl⟩
    rw [hr] at HRS
    rw [ha] at HAS
    simp only [hr, ha] at HRR
    have HRH := Lib.hid HRR
    have H20 := Lib.hid h20
    clear HRR hsz s0 hs hr ha h20 h0
    go_wp2_with fail
    refine HRS.out.mono ?_
    rintro e w5 ⟨rfl, rfl⟩
    cases r
    · go_wp2_with fail
      refine HAS.out.mono ?_
      rintro e w6 ⟨rfl, rfl⟩
      by_cases ha0 : a = 0
      · subst ha0
        go_wp2_with fail
        refine (simple_any w6 n (by have := H20.out; omega)).mono ?_
        rintro e w7 ⟨ob, oc2, rfl, hn5, hb5⟩
        have HB5 := Lib.hid (HB3.out.trans (hb5.mono HB3.out.size))
        have HRX := Lib.hid (HRH.out w7 ob oc2 hb5 hn5)
        clear hn5 hb5
        go_wp2_with fail
        refine HRX.out.mono ?_
        rintro e w8 ⟨rfl, hb6⟩
        go_wp2
        go_ret
        exact ⟨rfl, HB5.out.trans (hb6.mono HB5.out.size)⟩
      · have e0 : ((a : Int) == 0) = false := by simp; omega
        have e0' : decide (a = 0) = false := decide_eq_false ha0
        go_wp2_with fail
        refine (simple_any w6 n (by have := H20.out; omega)).mono ?_
        rintro e w7 ⟨ob, oc2, rfl, hn5, hb5⟩
        have HB5 := Lib.hid (HB3.out.trans (hb5.mono HB3.out.size))
        have hrx := HRH.out w7 ob oc2 hb5 hn5
        rw [e0'] at hrx
        have HRX := Lib.hid hrx
        clear hn5 hb5 hrx
        go_wp2_with fail
        refine HRX.out.mono ?_
        rintro e w8 ⟨rfl, hb6⟩
        go_wp2
        go_ret
        exact ⟨rfl, HB5.out.trans (hb6.mono HB5.out.size)⟩
    · go_wp2_with fail
      refine (simple_any w5 n (by have := H20.out; omega)).mono ?_
      rintro e w7 ⟨ob, oc2, rfl, hn5, hb5⟩
      have HB5 := Lib.hid (HB3.out.trans (hb5.mono HB3.out.size))
      have HRX := Lib.hid (HRH.out w7 ob oc2 hb5 hn5)
      clear hn5 hb5
      go_wp2_with fail
      refine HRX.out.mono ?_
      rintro e w8 ⟨rfl, hb6⟩
      go_wp2
      go_ret
      exact ⟨rfl, HB5.out.trans (hb6.mono HB5.out.size)⟩
end
end Go.Proofs.YtmjckjbdkffkoaaDoor

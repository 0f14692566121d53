/- What the statements' right of layer 10 (relex) returns. Condition: texts of at most 900 bytes.
What the statements' awake of layer 10 (relex) returns. Condition: the program's table of operators lies as start-up lays it.
A row of edits in memory; what the statements' short of layer 10 (relex) returns. No condition. -/
import Derived.Test.YtdjcidackkogjaaGreatDoorRi
import Derived.Test.YtdjcidackkogjaaGreatDoorQn
import Derived.Test.YtdjcidackkogjaaGreatDoorQq
namespace Go.Proofs.YtdjcidackkogjaaGreatDoor
open Go Go.RowKit
set_option linter.unusedVariables false
set_option linter.unusedSectionVars false

theorem step_callX {ops : Array Oper} {o : Oper} {a : Act} {w : World} {K : Act → World → Prop} {Q : Exit → Act → World → Prop} {E : Prop} (hw : Region.wanted o (yielded ops a.tmps) = true) {f : FuncId} {fn : Func} (hf : Tryz.prog.funcs[f]? = some fn) (hname : (fn.name == "runtime.NumGoroutine") = false) (hb : fn.body.isSome = true) (args : List Operand) (tys : Array TypeId)
    (ho : o.op = .call { callee := .value (.func f), args := args.toArray, argTypes := tys }) (vs : List Value) (hv : args.map a.eval = vs) (R : Value → World → Prop)
    (hc : Calls Tryz.prog f vs.toArray w fun e w' => ∃ v, e = .returned v ∧ R v w') (h : ∀ v w', R v w' → K (a.put o.dst v) w') :
    if Region.wanted o (yielded ops a.tmps) = true then Oper.wp Tryz.prog o a w K Q else E := by
  rw [if_pos hw]
  have e1 : a.eval (.func f) = .func (.func f) #[] #[] := rfl
  unfold Oper.wp execOp
  simp only [ho, resolve, List.map_toArray, hv, e1, Deferred.ofValue, invoke, Sem.run_bind, Sem.run_pure, Result.andThen_ok, Array.empty_append, Array.append_empty, call_enter hf hname hb]
  rw [Oper.upon_enter]
  refine hc.mono ?_
  rintro e w' ⟨v, rfl, hr⟩
  exact h v w' hr
end Go.Proofs.YtdjcidackkogjaaGreatDoor
namespace Go.Proofs.YtdjcidackkogjaaGreatDoor
open Go Go.RowKit
set_option linter.unusedVariables false
set_option linter.unusedSectionVars false

def awA : ByteArray := ⟨#[97, 32, 98, 32, 99]⟩
def awB : ByteArray := ⟨#[97, 32, 98, 98, 32, 99]⟩
theorem awA_tk : TKs awA = [(⟨6, 0, 1, false⟩, Lx.zero), (⟨1, 1, 2, false⟩, Lx.zero), (⟨6, 2, 3, false⟩, Lx.zero), (⟨1, 3, 4, false⟩, Lx.zero), (⟨6, 4, 5, false⟩, Lx.zero)] := by kernel_rfl
theorem awB_tk : TKs awB = [(⟨6, 0, 1, false⟩, Lx.zero), (⟨1, 1, 2, false⟩, Lx.zero), (⟨6, 2, 4, false⟩, Lx.zero), (⟨1, 4, 5, false⟩, Lx.zero), (⟨6, 5, 6, false⟩, Lx.zero)] := by kernel_rfl
theorem awB_do : doB awA 2 ⟨#[98]⟩ ⟨#[98, 98]⟩ = awB := by kernel_rfl
theorem tk_at {I : List (Tk × Mk)} {L : List Tk} (h : L = I.map Prod.fst) {i : Nat} {t : Tk} (ht : L[i]? = some t) : ∃ q, I[i]? = some q ∧ q.1 = t := by
  rw [h, List.getElem?_map] at ht
  cases hq : I[i]? with
  | none => rw [hq] at ht; cases ht
  | some q =>
    rw [hq] at ht
    exact ⟨q, rfl, by simpa using ht⟩
theorem aw_kept {I I' : List (Tk × Mk)} {D D' : List Dl} {E E' : Mk} {hd tail : Nat} (hP : Pth awA D 0 Mk.zero I awA.size E) (hP' : Pth awB D' 0 Mk.zero I' awB.size E') (hk : KeptP I D I' D' 2 1 ((2 : Int) - 1) hd tail) : hd = 0 ∧ tail = 2 := by
  have h1 := hP.whole.1
  have h2 := hP'.whole.1
  rw [awA_tk] at h1
  rw [awB_tk] at h2
  have hl : I.length = 5 := by simpa using (congrArg List.length h1).symm
  obtain ⟨k1, k2, k3, k4⟩ := hk
  obtain ⟨q0, a0, b0⟩ := tk_at h1 (i := 0) rfl
  obtain ⟨q1, a1, b1⟩ := tk_at h1 (i := 1) rfl
  obtain ⟨q2, a2, b2⟩ := tk_at h1 (i := 2) rfl
  obtain ⟨q3, a3, b3⟩ := tk_at h1 (i := 3) rfl
  obtain ⟨r3, c3, d3⟩ := tk_at h2 (i := 3) rfl
  have hx : mkL q3.2 D = Lx.zero := by
    have := hP.ahead a3
    rw [awA_tk] at this
    simpa using this.symm
  have hy : mkL r3.2 D' = Lx.zero := by
    have := hP'.ahead c3
    rw [awB_tk] at this
    simpa using this.symm
  constructor
  · have := (k2 0 q0 a0).1
    rw [b0] at this
    simp only at this
    omega
  · rcases Nat.lt_or_ge tail 2 with h | h
    · exfalso
      refine k3 3 3 q3 r3 (by omega) (by rw [b3]; show 2 + 1 ≤ 3; omega) a3 c3 (by rw [b3, d3]; rfl) ?_
      rw [hx, hy]
    · rcases Nat.lt_or_ge 2 tail with h' | h'
      · exfalso
        obtain ⟨r, j, q, e1, e2, _⟩ := k4 (by omega)
        have e3 : I.length - tail = 0 ∨ I.length - tail = 1 ∨ I.length - tail = 2 := by omega
        rcases e3 with e3 | e3 | e3
        · rw [e3, a0] at e1; cases e1; rw [b0] at e2; simp at e2
        · rw [e3, a1] at e1; cases e1; rw [b1] at e2; simp at e2
        · rw [e3, a2] at e1; cases e1; rw [b2] at e2; simp at e2
      · omega
theorem eq_kept (a b c d : Int) (w : World) : (Op.equalIn 10000 31 (.agg #[.int .i64 a, .int .i64 b]) (.agg #[.int .i64 c, .int .i64 d])).run Tryz.prog w = .ok (a == c && b == d) w := by
  have u3 := Tryz.underlying3
  have a3 := Tryz.isAgg3
  have z3 := Tryz.sizeOf3
  have hS : Tryz.prog.underlying 31 = some (.struct (Tryz.prog.fieldsOf 31)) := by kernel_rfl
  rw [show (10000 : Nat) = 9999 + 1 from rfl, run_equalIn_agg w 9999 31 _ _ hS (by kernel_rfl)]
  simp only [Program.fieldsOf, Tryz.underlying31]
  go_simp
  by_cases h1 : a = c <;> by_cases h2 : b = d <;> simp [h1, h2]
theorem eql_kept (a b c d : Int) (w : World) : (binOp .eql 31 (.agg #[.int .i64 a, .int .i64 b]) (.agg #[.int .i64 c, .int .i64 d])).run Tryz.prog w = .ok (.bool (a == c && b == d)) w := by
  rw [run_eql_struct, eq_kept]
  simp [Result.andThen]
set_option maxRecDepth 100000 in
set_option maxHeartbeats 4000000 in
theorem awake10_any (w : World) (hT : Tx w) : Calls Tryz.prog 9 #[] w fun e w' => e = .returned (.bool true) ∧ Below w.heap.size w w' := by
  have HN := Lib.hid (dnew_any w hT awA (by decide))
  have HT := Lib.hid hT
  have hkk := fun W => eql_kept 0 2 0 2 W
  simp only [beq_self_eq_true, Bool.and_self] at hkk
  unfold awA at HN
  obtain ⟨b, hb⟩ : ∃ b, w.heap.size = b := ⟨_, rfl⟩
  rw [hb] at HN
  have HB := Lib.hid hb
  clear hT hb
  go_enter Tryz.func9, Tryz.ntmps9
  go_wp2_with fail
  refine (HN.out).mono ?_
  rintro e w1 ⟨rfl, hD, hb1⟩
  obtain ⟨I, E, D, g, ni, ci, od, nd, cd, hV, hic, _⟩ := hD (fun _ => False) (fun _ h => h.elim)
  rw [← HB.out] at hb1
  have HA := Lib.hid (apply_ok w1 b awA I E D _ ni ci od nd cd hV hic (.inr ⟨g, 0, rfl⟩) (by have := HT.out.1; have := HB.out; omega) (HT.out.b hb1) 2 ⟨#[98]⟩ ⟨#[98, 98]⟩ (by decide) (by decide) (by decide) (by rw [awB_do]; decide))
  have HV := Lib.hid (And.intro hV hb1)
  clear hD hV hb1
  go_wp2_with fail
  refine (HA.out).mono ?_
  rintro e w2 ⟨h, t, I', E', D', g', ni', ci', od', nd', cd', rfl, hV', q1, q2, q3, hF, hk⟩
  rw [awB_do] at hV'
  obtain ⟨rfl, rfl⟩ := aw_kept HV.out.1.path hV'.path hk
  have hl5 : ni' = 5 := by
    have h1 := hV'.path.whole.1
    rw [awB_tk] at h1
    have h2 : I'.length = 5 := by simpa using (congrArg List.length h1).symm
    have := hV'.its.len
    omega
  subst hl5
  have hal := (Below.refl w2.heap.size w2).alloc (Nat.le_refl _) (.cells #[.int .i64 0, .int .i64 2] 31)
  have hV2 := hV'.below hal
  have HTK := Lib.hid (dtokens_any _ b awB I' E' D' _ 5 ci' od' nd' cd' hV2)
  have hB2 : Below w.heap.size w w2 := HV.out.2.trans (hF.below HV.out.2.size (fun j hj => by have := HB.out; omega))
  have HB2 := Lib.hid (hB2.trans (hal.mono hB2.size))
  clear hk hV' q1 q2 q3 hF hal hV2 hB2
  go_wp2_with fail
  refine (HTK.out).mono ?_
  rintro e w3 ⟨z, c, rfl, _, _, hb3, _⟩
  go_wp2
  go_ret
  exact ⟨rfl, HB2.out.trans (hb3.mono HB2.out.size)⟩
end Go.Proofs.YtdjcidackkogjaaGreatDoor
namespace Go.Proofs.YtdjcidackkogjaaGreatDoor
open Go Go.RowKit
set_option linter.unusedVariables false
set_option linter.unusedSectionVars false

def RdE (W : World) (oa : Option Addr) (n : Nat) (av : Nat → Int) (dv nv : Nat → ByteArray) : Prop :=
  ∀ i, i < n → ∃ b off, oa = some ⟨b, off, none⟩ ∧ b < W.heap.size ∧ W.cell? ⟨b, off + i * 3, none⟩ = some (.int .i64 (av i)) ∧ W.cell? ⟨b, off + i * 3 + 1, none⟩ = some (.string (dv i)) ∧ W.cell? ⟨b, off + i * 3 + 2, none⟩ = some (.string (nv i))
theorem RdE.below {w w' : World} {oa : Option Addr} {n : Nat} {av : Nat → Int} {dv nv : Nat → ByteArray} (h : RdE w oa n av dv nv) (hb : Below w.heap.size w w') : RdE w' oa n av dv nv := fun i hi => by
  obtain ⟨b, off, e, hl, h0, h1, h2⟩ := h i hi
  exact ⟨b, off, e, Nat.lt_of_lt_of_le hl hb.size, (hb.cell (p := ⟨b, _, none⟩) hl).trans h0, (hb.cell (p := ⟨b, _, none⟩) hl).trans h1, (hb.cell (p := ⟨b, _, none⟩) hl).trans h2⟩
def ShR (n : Nat) (dv nv : Nat → ByteArray) (most : Nat) (B : Bool) : Prop := B = true → n ≤ most ∧ ∀ i, i < n → (dv i).size ≤ 60 ∧ (nv i).size ≤ 60
def ShP (w : World) (n : Nat) (dv nv : Nat → ByteArray) (most : Nat) (e : Ending) (w' : World) : Prop := ∃ B, e = .returned (.bool B) ∧ ShR n dv nv most B ∧ w' = w
def ShL (w : World) (n : Nat) (dv nv : Nat → ByteArray) (v : Value) (wr : World) : Prop := wr = w ∧ ∃ i : Nat, v = .int .i64 (i : Int) ∧ i ≤ n ∧ ∀ j, j < i → (dv j).size ≤ 60 ∧ (nv j).size ≤ 60
set_option maxRecDepth 100000 in
set_option maxHeartbeats 4000000 in
theorem short10_any (w : World) (oa : Option Addr) (n c : Nat) (av : Nat → Int) (dv nv : Nat → ByteArray) (hR : RdE w oa n av dv nv) (most : Nat) (hmo : most ≤ 1000) : Calls Tryz.prog 10 #[.slice oa n c, .int .i64 (most : Int)] w fun e w' => ShP w n dv nv most e w' := by
  have HR := Lib.hid hR
  clear hR
  by_cases hm : (most : Int) < (n : Int)
  · go_enter Tryz.func10, Tryz.ntmps10
    go_wp2
    go_ret
    exact ⟨false, rfl, fun h => (by cases h), rfl⟩
  · go_enter Tryz.func10, Tryz.ntmps10
    go_wp2
    go_loopw [5] (fun v wr => ShL w n dv nv v wr) (fun v _ => n - (intOf v).toNat)
    case atStart => exact ⟨rfl, 0, rfl, Nat.zero_le _, fun j hj => by omega⟩
    case round =>
      obtain ⟨hwr, i, rfl, hi, hall⟩ := hrel
      obtain rfl : w = wr := hwr.symm
      clear hwr
      have HALL := Lib.hid hall
      clear hall
      by_cases hlt : i < n
      · obtain ⟨b, off, rfl, hl, h0, h1, h2⟩ := HR.out i hlt
        have q0 : (0 : Int) ≤ (i : Int) := by omega
        have q1 : (i : Int) < (n : Int) := by omega
        by_cases hd : (60 : Int) < ((dv i).size : Int)
        · go_wp2
          go_ret
          exact ⟨false, rfl, fun h => (by cases h), rfl⟩
        · by_cases hn : (60 : Int) < ((nv i).size : Int)
          · go_wp2
            go_ret
            exact ⟨false, rfl, fun h => (by cases h), rfl⟩
          · go_wp2
            go_roundw
            case rel =>
              refine ⟨by first | rfl | trivial, i + 1, by go_num, by omega, fun j hj => ?_⟩
              rcases Nat.lt_or_ge j i with h | h
              · exact HALL.out j h
              · have : j = i := by omega
                subst this
                omega
            case measure => simp [intOf]; omega
      · have q1 : ¬ (i : Int) < (n : Int) := by omega
        go_wp2
        go_ret
        exact ⟨true, rfl, fun _ => ⟨by omega, fun j hj => HALL.out j (by omega)⟩, rfl⟩
end Go.Proofs.YtdjcidackkogjaaGreatDoor

/- What the pieces of a node yield, of a node whose kids lie one right behind the other. Condition: at most ten thousand leaves and nodes. -/
import Derived.Test.YtmjckjbdkffkoaaDoorRuV
import Derived.Test.YtmjckjbdkffkoaaDoorRuQ
namespace Go.Proofs.YtmjckjbdkffkoaaDoor
open Go.RowKit Go.Shelf
set_option linter.unusedVariables false
attribute [local go_sem] Oper.semAt_some

section
variable (w : World)
set_option maxRecDepth 100000 in
set_option maxHeartbeats 2000000 in
theorem signs_none (AB YB Bv a e : Nat) (hab : Blk w AB #[.int .i64 (a : Int)] 3) (he : e ≤ a) :
    Calls Tryd.prog 109 #[.int .i64 (e : Int), .pointer (some ⟨AB, 0, none⟩), .pointer (some ⟨YB, 0, none⟩), .pointer (some ⟨Bv, 0, none⟩)] w fun r w' => r = .returned (.bool true) ∧ w' = w := by
  have ca := hab.cell 0
  simp only [List.getElem?_toArray, List.getElem?_cons_zero] at ca
  have hlt : ¬ (a : Int) < (e : Int) := by omega
  clear hab
  go_enter Tryd.func109, Tryd.ntmps109
  go_wp2
  go_loopw [6] (fun v6 wr => wr = w) (fun _ _ => 0)
  case atStart => rfl
  case round =>
    obtain rfl : w = wr := hrel.symm
    clear hrel
    go_wp2
    go_ret
    exact ⟨rfl, rfl⟩
set_option maxRecDepth 100000 in
set_option maxHeartbeats 2000000 in
theorem letter_any (k : Int) (h1 : 1 ≤ k) (h2 : k ≤ 18) :
    Calls Tryd.prog 110 #[.int .i64 k] w fun r w' => r = .returned (.int .u8 (letN k : Nat)) ∧ w' = w := by
  have h : k = 1 ∨ k = 2 ∨ k = 3 ∨ k = 4 ∨ k = 5 ∨ k = 6 ∨ k = 7 ∨ k = 8 ∨ k = 9 ∨ k = 10 ∨ k = 11 ∨ k = 12 ∨ k = 13 ∨ k = 14 ∨ k = 15 ∨ k = 16 ∨ k = 17 ∨ k = 18 := by omega
  clear h1 h2
  rcases h with rfl | rfl | rfl | rfl | rfl | rfl | rfl | rfl | rfl | rfl | rfl | rfl | rfl | rfl | rfl | rfl | rfl | rfl
  all_goals
    go_enter Tryd.func110, Tryd.ntmps110
    go_wp2
    go_ret
    exact ⟨rfl, rfl⟩
end
/-- Ahead of a round over the kids. -/
def PkR (W : World) (Bv YB AB l : Nat) (v : Vw) (J : List Nat → (Nat → Prop) → World → Prop) (nv : Nat → Nd) (ks : List Nat) (a e : Nat) (v32 : Value) (wr : World) : Prop :=
  ∃ (pre rest : List Nat) (a' : Nat) (T : Nat → Prop), ks = pre ++ rest ∧ v32 = .int .i64 (pre.length : Int) ∧ KdT nv rest a' e ∧ endK nv ks a = endK nv rest a' ∧ PcM W Bv YB AB l v J a' (rowK nv pre) T wr
set_option maxRecDepth 100000 in
set_option maxHeartbeats 4000000 in
theorem pieces_seq (m : Nat) (hm : 3 ≤ m) (Bv : Nat) (v : Vw) (lv : Nat → Lf) (nv : Nat → Nd) (ks : List Nat) (W : World) (hV : VwOk W v lv nv ks) (hb : Blk W Bv v.cs 74)
    (a e : Nat) (hf : (nv v.i).f = (a : Int)) (ht : (nv v.i).t = (e : Int)) (hle : e ≤ v.ln) (hk : KdT nv ks a e) (hkn : v.kn ≤ 10000) :
    SeqT m Tryd.prog 108 #[.pointer (some ⟨Bv, 0, none⟩)] (fun x : Nat => #[.int .u8 (x : Int)]) (CapV Bv v) (rowTg (fun i => sgn (lv i).k (lv i).s) nv ks a e) W := by
  intro l J Jx hJ hJx hY h0
  obtain ⟨sg, hsg⟩ : ∃ sg : Nat → Nat, (fun i => sgn (lv i).k (lv i).s) = sg := ⟨_, rfl⟩
  obtain ⟨L, hL⟩ : ∃ L, rowTg (fun i => sgn (lv i).k (lv i).s) nv ks a e = L := ⟨_, rfl⟩
  rw [hL] at hY ⊢
  have hro : Fence.wide.round = none := rfl
  have hfn : Fence.wide.fn 108 := trivial
  have HV := Lib.hid hV
  have HB := Lib.hid hb
  have HCL := Lib.hid (hV.capLt hb.lt)
  have HJ := Lib.hid hJ
  have HJX := Lib.hid hJx
  have HY := Lib.hid hY
  have HL := Lib.hid hL
  have HSG := Lib.hid hsg
  have HK := Lib.hid hk
  have H0 := Lib.hid h0
  have HLE := Lib.hid hle
  have hvb := hb.cell 0
  have hvb1 := hb.cell 1
  have hvb2 := hb.cell 2
  have hvb3 := hb.cell 3
  simp only [Vw.cs, List.getElem?_toArray, List.getElem?_cons_zero, List.getElem?_cons_succ] at hvb hvb1 hvb2 hvb3
  obtain ⟨nb, no, hao, hnw, c0, c1, c2, c3⟩ := hV.a v.i hV.i
  rw [hf] at c1
  rw [ht] at c2
  rw [hao] at hvb1
  have q0 : (0 : Int) ≤ (v.i : Int) := by omega
  have q1 : (v.i : Int) < (v.n : Int) := by have := hV.i; omega
  have HAO := Lib.hid hao
  have r1 : (if (a : Int) < 0 then (0 : Int) else (a : Int)) = (a : Int) := by rw [if_neg (by omega)]
  have r2 : (if v.ln < e then (v.ln : Int) else (e : Int)) = (e : Int) := by rw [if_neg (by omega)]
  clear hV hb hJ hJx hY hL hsg hk h0 hf ht hle hao c0 c3
  refine callsIn_of_wp_marks Tryd.func108 rfl hfn ?_ hro
  simp only [Tryd.ntmps108, List.size_toArray, List.length_cons, List.length_nil, Nat.reduceAdd, Nat.reduceSub, Array.replicate_succ, Array.replicate_zero, List.push_toArray, List.append_toArray, List.nil_append, List.cons_append]
  gi_wp2
  have hB1 : Below W.heap.size W (W.alloc (.cells #[.func (.yield l) #[] #[]] 92)) := (Below.refl _ _).alloc (Nat.le_refl _) _
  have ky := Blk.new W #[.func (.yield l) #[] #[]] 92
  have hz1 : (W.alloc (.cells #[.func (.yield l) #[] #[]] 92)).heap.size = W.heap.size + 1 := by simp
  obtain ⟨W1, hW1⟩ : ∃ X, W.alloc (.cells #[.func (.yield l) #[] #[]] 92) = X := ⟨_, rfl⟩
  rw [hW1] at hB1 ky hz1 ⊢
  have hbl := HB.out.lt
  have hvb' := (hB1.cell (p := ⟨Bv, 0, none⟩) hbl).trans hvb
  have hvb1' := (hB1.cell (p := ⟨Bv, 1, none⟩) hbl).trans hvb1
  have hvb2' := (hB1.cell (p := ⟨Bv, 2, none⟩) hbl).trans hvb2
  have hvb3' := (hB1.cell (p := ⟨Bv, 3, none⟩) hbl).trans hvb3
  have c1' := (hB1.cell (p := ⟨nb, no + v.i * 4 + 1, none⟩) hnw).trans c1
  have c2' := (hB1.cell (p := ⟨nb, no + v.i * 4 + 2, none⟩) hnw).trans c2
  have HB1 := Lib.hid hB1
  have HKY := Lib.hid ky
  have HZ1 := Lib.hid hz1
  clear hW1 hB1 ky hz1 hvb hvb1 hvb2 hvb3 c1 c2
  have hS0 : W1.cell? ⟨Bv, 0, none⟩ = some (.slice v.la v.ln v.lc) ∧ W1.cell? ⟨Bv, 1, none⟩ = some (.slice (some ⟨nb, no, none⟩) v.n v.cap) ∧ W1.cell? ⟨Bv, 2, none⟩ = some (.int .i64 (v.i : Int)) ∧ W1.cell? ⟨nb, no + v.i * 4 + 1, none⟩ = some (.int .i64 (a : Int)) ∧ W1.cell? ⟨nb, no + v.i * 4 + 2, none⟩ = some (.int .i64 (e : Int)) := ⟨hvb', hvb1', hvb2', c1', c2'⟩
  have hbl1 : Bv < W1.heap.size := by have := HZ1.out; omega
  have hnw1 : nb < W1.heap.size := by have := HZ1.out; omega
  have hkeep : ∀ Wx : World, (∀ b o : Nat, b < W1.heap.size → Wx.cell? ⟨b, o, none⟩ = W1.cell? ⟨b, o, none⟩) → Wx.cell? ⟨Bv, 0, none⟩ = some (.slice v.la v.ln v.lc) ∧ Wx.cell? ⟨Bv, 1, none⟩ = some (.slice (some ⟨nb, no, none⟩) v.n v.cap) ∧ Wx.cell? ⟨Bv, 2, none⟩ = some (.int .i64 (v.i : Int)) ∧ Wx.cell? ⟨nb, no + v.i * 4 + 1, none⟩ = some (.int .i64 (a : Int)) ∧ Wx.cell? ⟨nb, no + v.i * 4 + 2, none⟩ = some (.int .i64 (e : Int)) := fun Wx h =>
    ⟨(h _ _ hbl1).trans hvb', (h _ _ hbl1).trans hvb1', (h _ _ hbl1).trans hvb2', (h _ _ hnw1).trans c1', (h _ _ hnw1).trans c2'⟩
  have hS1 := fun o => hkeep (W1.alloc o) (fun b k hb => ((Below.refl _ W1).alloc (Nat.le_refl _) o).cell (p := ⟨b, k, none⟩) hb)
  have hS2 := fun o x => hkeep ((W1.alloc o).setCell ⟨W1.heap.size, 0, none⟩ x) (fun b k hb => World.cell?_of_block ((Below.heap_setCell (W1.alloc o) ⟨W1.heap.size, 0, none⟩ x b (fun e => by have e' : b = W1.heap.size := e; omega)).trans (Below.heap_alloc W1 o b hb)))
  have HSK := Lib.hid (And.intro hS0 (And.intro hS1 hS2))
  clear hkeep hvb' hvb1' hvb2' c1' c2' hS0 hS1 hS2
  refine (wpIn_wide (n := m)).2 ?_
  go_cut [3, 4] from 3 to 27 (fun v3 v4 wx => v3 = .pointer (some ⟨W1.heap.size, 0, none⟩) ∧ v4 = .int .i64 (e : Int) ∧ wx = (W1.alloc (.cells #[.int .i64 (a : Int)] 3)).drew)
  case first =>
    refine (wpIn_wide (n := m)).1 (wpIn_noP ((wpIn_wide (n := m)).2 ?_))
    go_region_held3 (fun w' => w'.cell? ⟨Bv, 0, none⟩ = some (.slice v.la v.ln v.lc) ∧ w'.cell? ⟨Bv, 1, none⟩ = some (.slice (some ⟨nb, no, none⟩) v.n v.cap) ∧ w'.cell? ⟨Bv, 2, none⟩ = some (.int .i64 (v.i : Int)) ∧ w'.cell? ⟨nb, no + v.i * 4 + 1, none⟩ = some (.int .i64 (a : Int)) ∧ w'.cell? ⟨nb, no + v.i * 4 + 2, none⟩ = some (.int .i64 (e : Int))) (first | exact HSK.out.1 | exact HSK.out.2.1 _ | exact HSK.out.2.2 _ _) (first | fail)
    all_goals
      dsimp only [noP]
      go_wp2_with fail
      go_meet
      case rel => exact ⟨rfl, rfl, rfl⟩
  case rest =>
    obtain ⟨rfl, rfl, hwc⟩ := hcut
    obtain ⟨AB, hAB⟩ : ∃ x, W1.heap.size = x := ⟨_, rfl⟩
    obtain ⟨YB, hYB⟩ : ∃ x, W.heap.size = x := ⟨_, rfl⟩
    have hBc : Below W.heap.size W wc := by rw [hwc]; exact (HB1.out.trans (((Below.refl _ W1).alloc (Nat.le_refl _) _).mono HB1.out.size)).drew
    have hBc1 : Below W1.heap.size W1 wc := by rw [hwc]; exact ((Below.refl _ W1).alloc (Nat.le_refl _) _).drew
    have hzc : wc.heap.size = W1.heap.size + 1 := by rw [hwc]; simp
    have kab : Blk wc W1.heap.size #[.int .i64 (a : Int)] 3 := by rw [hwc]; exact (Blk.new W1 _ _).drew
    have hP0 : PcM W Bv YB AB l v J a (rowK nv []) (fun b => b = YB ∨ b = AB) wc := by
      refine ⟨HJ.out _ _ W wc _ H0.out (Frm.of_below hBc) (fun b hb => by rcases hb with rfl | rfl <;> exact .inr (by have := HZ1.out; omega)), ?_, hAB ▸ kab, .inl rfl, .inr rfl, by have := HZ1.out; omega, fun b hb => by rcases hb with rfl | rfl <;> (have := HZ1.out; omega), hBc.size, fun b hb hc => hBc.block b hb⟩
      rw [← hYB]
      exact HKY.out.below hBc1
    have HSTART := Lib.hid (show PkR W Bv YB AB l v J nv ks a e (.int .i64 0) wc from ⟨[], ks, a, _, rfl, rfl, HK.out, rfl, hP0⟩)
    have hvc := (hP0.view HB.out).cell 3
    simp only [Vw.cs, List.getElem?_toArray, List.getElem?_cons_zero, List.getElem?_cons_succ] at hvc
    rw [hAB, hYB]
    have HAB := Lib.hid hAB
    have HYB := Lib.hid hYB
    clear hwc hBc hBc1 hzc kab hP0 hAB hYB hvb3' r1 r2 hbl1 hnw1 hbl hnw
    go_wp2_with fail
    gi_wp2
    gi_loopw [32] (fun v32 wr => PkR W Bv YB AB l v J nv ks a e v32 wr) (fun v32 _ => v.kn - (intOf v32).toNat)
    case atStart => exact HSTART.out
    case round =>
      obtain ⟨pre, rest, a', T, hks, rfl, hkd, hek, hP⟩ := hrel
      have hon := hP.vw HV.out
      have hvr := (hP.view HB.out)
      have hv1 := hvr.cell 1
      simp only [Vw.cs, List.getElem?_toArray, List.getElem?_cons_zero, List.getElem?_cons_succ] at hv1
      rw [HAO.out] at hv1
      have hkl := hon.k.len
      obtain ⟨z, hz⟩ : ∃ z, pre.length = z := ⟨_, rfl⟩
      rw [hz]
      cases rest with
      | nil =>
        have hnlt : ¬ (z : Int) < (v.kn : Int) := by rw [hkl, hks, List.append_nil, hz]; omega
        have hae : a' ≤ e := hkd
        have hlist : L = rowK nv pre ++ segP sg a' (e - a') := by
          rw [← HL.out, hks, List.append_nil, HSG.out] 
          unfold rowTg
          rw [hks, List.append_nil] at hek
          rw [hek]
          rfl
        have hsi := signs_in (m - 1) (by omega) W Bv YB AB l v lv nv ks HV.out HB.out L J Jx HJ.out (fun p x r T' Wq h1 h2 h3 => YieldAt.any (HY.out p x r T' Wq h1 h2 h3)) a' e (rowK nv pre) T wr hP HLE.out ⟨[], by rw [HSG.out, List.append_nil]; exact hlist⟩
        rw [HSG.out] at hsi
        have HSI := Lib.hid hsi
        have HLIST := Lib.hid hlist
        clear hsi hlist hek hks hkd hP hon hvr hv1 hz hkl
        gi_wp2_with fail
        refine ⟨trivial, fun _ => by omega, HSI.out.mono ?_⟩
        rintro r w9 ⟨hkv, hres⟩
        rcases hres with ⟨rfl, hP9⟩ | ⟨rfl, pre9, hJ9⟩
        · have HJ9 := Lib.hid hP9.hj
          clear hP9 hkv
          gi_wp2
          exact ⟨_, results_none rfl _ _ _, ⟨⟨_, rfl⟩, .inl ⟨_, by rw [HLIST.out]; exact HJ9.out⟩⟩⟩
        · have HJ9 := Lib.hid hJ9
          clear hJ9 hkv
          gi_wp2
          exact ⟨_, results_none rfl _ _ _, ⟨⟨_, rfl⟩, .inr ⟨_, _, HJ9.out⟩⟩⟩
      | cons k rest =>
        have hzl : z < v.kn := by rw [hkl, hks, List.length_append, List.length_cons, hz]; omega
        have hkz : ks[z]? = some k := by rw [hks, List.getElem?_append_right (by rw [hz]; exact Nat.le_refl _), hz, Nat.sub_self]; rfl
        obtain ⟨kb, hka, hkw, ck⟩ := hon.k.cells z k hkz
        rw [hka]
        have hkn : k < v.n := hon.kl k (List.mem_of_getElem? hkz)
        obtain ⟨nb2, no2, hao2, hnw2, d0, d1, d2, d3⟩ := hon.a k hkn
        rw [HAO.out] at hao2
        obtain ⟨rfl, rfl⟩ : nb = nb2 ∧ no = no2 := by simpa using hao2
        obtain ⟨k1, k2, hkf, hkt, hke, hrest⟩ := hkd
        obtain ⟨P, hPP⟩ : ∃ P, nv k = P := ⟨_, rfl⟩
        obtain ⟨t', ht'⟩ : ∃ t' : Nat, (nv k).t = (t' : Int) := ⟨(nv k).t.toNat, by omega⟩
        rw [ht', Int.toNat_natCast] at hrest
        rw [ht'] at d2 hkt hke
        rw [hkf] at d1
        have hlist : ∃ r, L = rowK nv pre ++ letN (nv k).k :: r := ⟨rowTg sg nv rest t' e, by
          rw [← HL.out, HSG.out]
          unfold rowTg
          rw [hks, rowK, List.map_append, List.append_assoc, List.map_cons, List.cons_append]
          rw [hks] at hek
          rw [hek]
          show _ = rowK nv pre ++ (letN (nv k).k :: (rowK nv rest ++ segP sg (endK nv rest t') (e - endK nv rest t')))
          have : endK nv (k :: rest) a' = endK nv rest t' := by show endK nv rest (nv k).t.toNat = _; rw [ht', Int.toNat_natCast]
          rw [this]
          rfl⟩
        have hek2 : endK nv ks a = endK nv rest t' := by
          rw [hek]
          show endK nv rest (nv k).t.toNat = _
          rw [ht', Int.toNat_natCast]
        obtain ⟨pk, hpk⟩ : ∃ pk, (nv k).k = pk := ⟨_, rfl⟩
        obtain ⟨pu, hpu⟩ : ∃ pu, (nv k).u = pu := ⟨_, rfl⟩
        rw [hpk] at d0 k1 k2 hlist
        rw [hpu] at d3
        obtain ⟨c, hc⟩ : ∃ c, letN pk = c := ⟨_, rfl⟩
        have hlt := fun Wd => letter_any Wd pk k1 k2
        rw [hc] at hlist hlt
        have e3 : IntKind.i64.wrap ((z : Int) + 1) = (z : Int) + 1 := IntWalk.i64_in _ (by omega)
        have p0 : (0 : Int) ≤ (z : Int) := by omega
        have p1 : (z : Int) < (v.kn : Int) := by omega
        have p2 : (0 : Int) ≤ (k : Int) := by omega
        have p3 : (k : Int) < (v.n : Int) := by omega
        have r3 : (if e < a' then (e : Int) else (a' : Int)) = (a' : Int) := by rw [if_neg (by omega)]
        have r4 : (if a' < t' then (t' : Int) else (a' : Int)) = (t' : Int) := by split <;> omega
        have r5 : (if t' < a' then (a' : Int) else (t' : Int)) = (t' : Int) := by rw [if_neg (by omega)]
        have HP := Lib.hid hP
        have HLT := Lib.hid hlt
        have HLIST := Lib.hid hlist
        have HEK := Lib.hid hek2
        have HKS := Lib.hid hks
        have HRE := Lib.hid hrest
        have HC := Lib.hid hc
        have HPK := Lib.hid hpk
        have HZ := Lib.hid hz
        clear hP hlt hlist hek hek2 hks hrest hc hpk hpu hz hPP ht' hkz hka hvr hkf hao2 hkl
        gi_wp2
        have hB2 : Below wr.heap.size wr (wr.alloc (.cells #[.int .i64 pk, .int .i64 (a' : Int), .int .i64 (t' : Int), .int .i64 pu] 27)) := (Below.refl _ _).alloc (Nat.le_refl _) _
        have kN := Blk.new wr #[.int .i64 pk, .int .i64 (a' : Int), .int .i64 (t' : Int), .int .i64 pu] 27
        have hz2 : (wr.alloc (.cells #[.int .i64 pk, .int .i64 (a' : Int), .int .i64 (t' : Int), .int .i64 pu] 27)).heap.size = wr.heap.size + 1 := by simp
        obtain ⟨W2, hW2⟩ : ∃ X, wr.alloc (.cells #[.int .i64 pk, .int .i64 (a' : Int), .int .i64 (t' : Int), .int .i64 pu] 27) = X := ⟨_, rfl⟩
        obtain ⟨NB, hNB⟩ : ∃ X, wr.heap.size = X := ⟨_, rfl⟩
        have hP2 := HP.out.own (NB := NB) HJ.out hB2 (by omega) (by rw [hz2]; omega)
        rw [hW2] at hB2 kN hz2 hP2 ⊢
        rw [hNB] at kN ⊢
        have n0 := kN.cell 0
        have n1 := kN.cell 1
        have n2 := kN.cell 2
        have ca := hP2.ab.cell 0
        have cy := hP2.yb.cell 0
        simp only [List.getElem?_toArray, List.getElem?_cons_zero, List.getElem?_cons_succ] at n0 n1 n2 ca cy
        have hsn := fun Wd (hd : Below W2.heap.size W2 Wd) => signs_none Wd AB YB Bv a' a' (hP2.ab.below hd) (Nat.le_refl _)
        have hyk : ∀ Wd, Below W2.heap.size W2 Wd → YieldAt Fence.wide (m - 1) Tryd.prog l #[.int .u8 (c : Int)] Wd fun e W' => KpT (CapV Bv v) (fun b => T b ∨ b = NB) Wd W' ∧ ((e = .returned (.bool true) ∧ J (rowK nv pre ++ [c]) (fun b => T b ∨ b = NB) W') ∨ (e = .returned (.bool false) ∧ Jx (rowK nv pre ++ [c]) (fun b => T b ∨ b = NB) W')) := fun Wd hd => by
          obtain ⟨r, hL⟩ := HLIST.out
          exact HY.out (rowK nv pre) c r _ Wd hL (hP2.below HJ.out hd).hj (fun b hb => ((hP2.below HJ.out hd).tb b hb).2)
        have HYK := Lib.hid hyk
        have HSN := Lib.hid hsn
        have HP2 := Lib.hid hP2
        have HKN := Lib.hid kN
        clear hyk hsn hP2 kN hB2 hz2 hW2 hNB d0 d1 d2 d3 ck
        have hmx : Tryd.prog.follows .mixedOrders = true := by kernel_rfl
        obtain ⟨fn9, tmps9, assign9, body9, hy9, hR9⟩ := HYK.out W2.drew (Below.refl _ _).drew
        refine wpIn_noP ?_
        gi_region_with_o (first
          | (refine ⟨trivial, fun _ => by omega, (callsIn_wide.2 (HSN.out _ (by first | exact Below.refl _ _ | exact (Below.refl _ _).drew | exact (Below.refl _ _).drew.drew | exact below_drewN (Below.refl _ _) _))).mono ?_⟩; rintro e1 w1 ⟨rfl, rfl⟩)
          | (refine ⟨trivial, fun _ => by omega, (callsIn_wide.2 (HLT.out _)).mono ?_⟩; rintro e1 w1 ⟨rfl, rfl⟩)
          | (refine ⟨fun _ => by omega, hR9.mono ?_⟩; rintro e9 W9 hh; obtain ⟨bb, rfl, hq9⟩ := yield_one hh; clear hh))
        all_goals
          dsimp only [noP]
          obtain ⟨hk9, hjt, hjf⟩ := hq9.out
          have hPd := HP2.out.below HJ.out (w' := W2.drew) (Below.refl _ _).drew
          have hp9 := fun hb => hPd.kpt hk9 (hjt hb)
          have ab9 : Blk W9 AB #[.int .i64 (a' : Int)] 3 := (hk9.same _ hPd.ab.lt (.inl hPd.ta)).trans hPd.ab
          have nb9 : Blk W9 NB #[.int .i64 pk, .int .i64 (a' : Int), .int .i64 (t' : Int), .int .i64 pu] 27 := (hk9.same NB (show NB < W2.drew.heap.size from HKN.out.lt) (.inl (.inr rfl))).trans HKN.out
          have ca9 := ab9.cell 0
          have fa9 := ab9.frozen 0
          have n29 := nb9.cell 2
          simp only [List.getElem?_toArray, List.getElem?_cons_zero, List.getElem?_cons_succ] at ca9 n29
          have HP9 := Lib.hid hp9
          have HJF := Lib.hid hjf
          clear hk9 hjt hjf hp9 hq9 hPd ab9 nb9 hy9 hR9 n0 n1 n2 ca cy
          cases bb
          · gi_wp2
            exact ⟨_, results_none rfl _ _ _, ⟨⟨_, rfl⟩, .inr ⟨_, _, HJF.out (by first | rfl | trivial)⟩⟩⟩
          · gi_wp2
            go_roundw
            case rel =>
              refine ⟨pre ++ [k], rest, t', (fun b => T b ∨ b = NB), by rw [HKS.out, List.append_assoc]; rfl, by rw [List.length_append, HZ.out, List.length_singleton]; go_num, HRE.out, HEK.out, ?_⟩
              have hat := (HP9.out (by first | rfl | trivial)).at (a' := t') HJ.out HCL.out
              have hrk : rowK nv (pre ++ [k]) = rowK nv pre ++ [c] := by unfold rowK; rw [List.map_append, List.map_cons, List.map_nil, HPK.out, HC.out]
              rw [hrk]
              exact hat
            case measure => simp [intOf]; omega
end Go.Proofs.YtmjckjbdkffkoaaDoor

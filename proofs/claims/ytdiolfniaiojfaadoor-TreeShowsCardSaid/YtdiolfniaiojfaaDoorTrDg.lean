/- What the document's own digits and Show of layer 11 (tree) return. Condition: right trees of at most 40 nodes. -/
import Derived.Test.YtdiolfniaiojfaaDoorTrM
import Derived.Test.YtdiolfniaiojfaaDoorTrSp
namespace Go.Proofs.YtdiolfniaiojfaaDoor
open Go.RowKit Go.Lib
set_option linter.unusedVariables false

def lst (l : List UInt8) : ByteArray := ⟨l.toArray⟩
theorem lst_size (l : List UInt8) : (lst l).size = l.length := by simp [lst, ByteArray.size]
theorem lst_app (l k : List UInt8) : lst l ++ lst k = lst (l ++ k) := by
  apply ByteArray.ext
  simp [lst]
theorem dig_one : ∀ d : Nat, d < 10 → (⟨#[48, 49, 50, 51, 52, 53, 54, 55, 56, 57]⟩ : ByteArray).extract d (d + 1) = lst [UInt8.ofNat (48 + d)] := by decide +kernel
section
variable (w : World)
set_option maxRecDepth 100000 in
theorem refdigits_any (v : Nat) (hv : v < 9223372036854775808) : Calls Tryd.prog 16 #[.int .i64 (v : Int)] w fun e w' => e = .returned (.string (lst (decDigits v))) ∧ w' = w := by
  go_enter Tryd.func16, Tryd.ntmps16
  go_wp2
  go_loopw [0, 3] (fun v0 v3 wr => wr = w ∧ ∃ (m : Nat) (t : List UInt8), v0 = .int .i64 (m : Int) ∧ v3 = .string (lst t) ∧ m ≤ v ∧ decDigits m ++ t = decDigits v) (fun v0 _ _ => (intOf v0).toNat)
  case atStart => exact ⟨rfl, v, [], rfl, rfl, Nat.le_refl _, by simp⟩
  case round =>
    obtain ⟨rfl, m, t, rfl, rfl, hm, he⟩ := hrel
    obtain ⟨d, hd⟩ : ∃ d, m % 10 = d := ⟨_, rfl⟩
    have HE := Lib.hid he
    have hlen : t.length < 20 := by
      have h1 := dd_len 18 v (by omega)
      rw [← he, List.length_append] at h1
      have := List.length_pos_iff.2 (dd_ne m)
      omega
    clear he
    by_cases h9 : m < 10
    · have h9' : ¬ (9 : Int) < (m : Int) := by omega
      have hx := dig_one m h9
      have ha := lst_app [UInt8.ofNat (48 + m)] t
      have hX : [UInt8.ofNat (48 + m)] ++ t = decDigits v := by rw [← HE.out, decDigits, dif_pos h9]
      obtain ⟨p, hp⟩ : ∃ p, lst [UInt8.ofNat (48 + m)] = p := ⟨_, rfl⟩
      obtain ⟨x, hxx⟩ : ∃ x, lst ([UInt8.ofNat (48 + m)] ++ t) = x := ⟨_, rfl⟩
      have hs : x.size < 30 := by rw [← hxx, lst_size, List.length_append]; simp; omega
      have HX : Hid (x = lst (decDigits v)) := Lib.hid (by rw [← hxx, hX])
      rw [hp] at hx ha
      rw [hxx] at ha
      obtain ⟨q, hq⟩ : ∃ q, lst t = q := ⟨_, rfl⟩
      rw [hq] at ha
      have hps : p.size + q.size < 30 := by rw [← ha] at hs; simpa using hs
      clear hxx hX hp
      rw [hq]
      clear hq
      go_wp2
      go_ret
      exact ⟨by rw [HX.out]; rfl, rfl⟩
    · have h9' : (9 : Int) < (m : Int) := by omega
      have hd10 : d < 10 := by omega
      have hx := dig_one d hd10
      have ha := lst_app [UInt8.ofNat (48 + d)] t
      obtain ⟨D, e1, e2⟩ := dd_one (v := m) (by omega)
      have HT : Hid (decDigits (m / 10) ++ ([UInt8.ofNat (48 + d)] ++ t) = decDigits v) := Lib.hid (by rw [← HE.out, e1, ← hd, e2]; simp)
      obtain ⟨p, hp⟩ : ∃ p, lst [UInt8.ofNat (48 + d)] = p := ⟨_, rfl⟩
      obtain ⟨T, hT⟩ : ∃ T, [UInt8.ofNat (48 + d)] ++ t = T := ⟨_, rfl⟩
      rw [hT] at ha HT
      have hTl : T.length < 30 := by rw [← hT, List.length_append]; simp; omega
      rw [hp] at hx ha
      obtain ⟨x, hxx⟩ : ∃ x, lst T = x := ⟨_, rfl⟩
      have hs : x.size < 30 := by rw [← hxx, lst_size]; exact hTl
      obtain ⟨q, hq⟩ : ∃ q, lst t = q := ⟨_, rfl⟩
      have HXX := Lib.hid hxx
      rw [hxx, hq] at ha
      have hps : p.size + q.size < 30 := by rw [← ha] at hs; simpa using hs
      have hmd : (m : Int) % 10 = (d : Int) := by omega
      have d0 : (0 : Int) ≤ (d : Int) := by omega
      clear hp hT hxx e1 e2 hd
      rw [hq]
      have HQ := Lib.hid hq
      clear hq
      go_wp2
      go_roundw
      case rel => exact ⟨trivial, m / 10, T, by rw [show ((m / 10 : Nat) : Int) = (m : Int) / 10 from by omega], by rw [HXX.out], by omega, HT.out⟩
      case measure => simp [intOf]; omega
end

/-! How long the texts are. -/
theorem chn_len {nv : Nat → Nd} : ∀ b, (chn nv b).length ≤ b + 1 := by
  intro b
  induction b using Nat.strongRecOn with
  | _ b ih =>
    rw [chn]
    split
    · rename_i h
      have := ih _ h.2
      simp only [List.length_cons]
      omega
    · simp
/-- Kinds and leaves as they are in a right tree. -/
def Nums (nv : Nat → Nd) (n : Nat) : Prop := ∀ i, i < n → ∃ K F T : Nat, (nv i).k = (K : Int) ∧ 1 ≤ K ∧ K ≤ 18 ∧ (nv i).f = (F : Int) ∧ F < 9223372036854775808 ∧ (nv i).t = (T : Int) ∧ T < 9223372036854775808
theorem hdL_len {nv : Nat → Nd} {n i : Nat} (h : Nums nv n) (hi : i < n) : (hdL (nv i)).length ≤ 40 := by
  obtain ⟨K, F, T, _, _, _, h1, h2, h3, h4⟩ := h i hi
  unfold hdL
  rw [h1, h3]
  have g1 := dd_len 18 F (by omega)
  have g2 := dd_len 18 T (by omega)
  simp
  omega
theorem gL_len {nv : Nat → Nd} {n : Nat} (h : Nums nv n) (hn : n ≤ 40) : ∀ k, k ≤ n → (gL nv k).length ≤ 90 * k := by
  intro k
  induction k with
  | zero => intro _; simp [gL]
  | succ k ih =>
    intro hk
    have h1 := ih (by omega)
    have h2 := hdL_len h (by omega : k < n)
    have h3 : clN nv k ≤ 41 := by
      unfold clN
      split
      · omega
      · have g1 : (pops nv k).length ≤ (chn nv (k - 1)).length := (List.takeWhile_sublist _).length_le
        have g2 := chn_len (nv := nv) (k - 1)
        omega
    have h4 : (sepL nv k).length ≤ 1 := by
      unfold sepL
      (repeat' split) <;> simp
    simp only [gL, List.length_append, shutL, List.length_replicate]
    omega
theorem ShT.len {nv : Nat → Nd} {n i : Nat} {T : List UInt8} (h : ShT nv n i T) (hN : Nums nv n) (hn : n ≤ 40) : T.length ≤ 4000 := by
  obtain ⟨e, he, hT⟩ := h
  have h1 := gL_len hN hn e he.le
  have h2 := chn_len (nv := nv) (e - 1)
  have h3 := he.le
  have := congrArg List.length hT
  simp only [List.length_append, shutL, List.length_replicate] at this
  omega
theorem ShI.len {nv : Nat → Nd} {n i k c : Nat} {T : List UInt8} (h : ShI nv n i k c T) (hi : i < n) (hN : Nums nv n) (hn : n ≤ 40) : T.length ≤ 4000 := by
  rcases h with ⟨_, _, rfl⟩ | ⟨_, d, e, _, _, _, _, he, hT⟩
  · have := hdL_len hN hi
    omega
  · have h1 := gL_len hN hn e he.le
    have h2 := chn_len (nv := nv) (e - 1)
    have h3 := he.le
    have := congrArg List.length hT
    simp only [List.length_append, shutL, List.length_replicate] at this
    omega
theorem let_one : ∀ K : Nat, K < 19 → (⟨#[63, 80, 76, 65, 73, 83, 88, 87, 82, 66, 85, 70, 72, 79, 67, 84, 78, 69, 77]⟩ : ByteArray).extract K (K + 1) = lst [bt letL K] := by decide +kernel
/-- Where Show's loop over the later nodes stands. -/
def ShRl (nv : Nat → Nd) (n i : Nat) (w : World) (v5 v6 v7 : Value) (wr : World) : Prop :=
  Below w.heap.size w wr ∧ ∃ (k c : Nat) (t : List UInt8), v5 = .string (lst t) ∧ v6 = .int .i64 (c : Int) ∧ v7 = .int .i64 (k : Int) ∧ i < k ∧ k ≤ n ∧ c < k ∧ ShI nv n i k c t
section
set_option maxRecDepth 100000 in
set_option maxHeartbeats 8000000 in
theorem refshow_any (nv : Nat → Nd) (n : Nat) (hn : n ≤ 40) (hs : Sp nv n) (hN : Nums nv n) (ao : Option Addr) (cap : Nat) : ∀ (m i : Nat), i < n → n - i ≤ m → ∀ w, NRow w ao n nv →
    Calls Tryd.prog 7 #[.slice ao n cap, .int .i64 (i : Int)] w fun e w' => ∃ T, e = .returned (.string (lst T)) ∧ ShT nv n i T ∧ Below w.heap.size w w' := by
  intro m
  induction m with
  | zero => intro i hi hm; omega
  | succ m ih =>
    intro i hi hm w hrow
    have HIH := Lib.hid ih
    have HROW := Lib.hid hrow
    have HNN := Lib.hid hN
    have HS := Lib.hid hs
    obtain ⟨K, F, T, k1, k2, k3, f1, f2, t1, t2⟩ := hN i hi
    obtain ⟨b, off, rfl, hbw, c0, c1, c2, c3⟩ := hrow i hi
    rw [k1] at c0
    rw [f1] at c1
    rw [t1] at c2
    have hl1 := let_one K (by omega)
    have HDG : Hid (∀ (W : World) (v : Nat), v = F ∨ v = T → Calls Tryd.prog 16 #[.int .i64 (v : Int)] W fun e w' => e = .returned (.string (lst (decDigits v))) ∧ w' = W) := Lib.hid (fun W v hv => refdigits_any W v (by rcases hv with rfl | rfl; exact f2; exact t2))
    have HH : Hid (hdL (nv i) = [bt letL K] ++ decDigits F ++ [45] ++ decDigits T) := Lib.hid (by unfold hdL; rw [k1, f1, t1]; simp)
    have g1 := dd_len 18 F (by omega)
    have g2 := dd_len 18 T (by omega)
    have a1 := lst_app [bt letL K] (decDigits F)
    have a2 := lst_app ([bt letL K] ++ decDigits F) [45]
    have a3 := lst_app ([bt letL K] ++ decDigits F ++ [45]) (decDigits T)
    rw [← HH.out] at a3
    obtain ⟨H, hH⟩ : ∃ H, hdL (nv i) = H := ⟨_, rfl⟩
    rw [hH] at a3 HH
    obtain ⟨x1, hx1⟩ : ∃ x, lst [bt letL K] = x := ⟨_, rfl⟩
    obtain ⟨x2, hx2⟩ : ∃ x, lst (decDigits F) = x := ⟨_, rfl⟩
    obtain ⟨x3, hx3⟩ : ∃ x, lst ([bt letL K] ++ decDigits F) = x := ⟨_, rfl⟩
    obtain ⟨x4, hx4⟩ : ∃ x, lst ([bt letL K] ++ decDigits F ++ [45]) = x := ⟨_, rfl⟩
    obtain ⟨x5, hx5⟩ : ∃ x, lst (decDigits T) = x := ⟨_, rfl⟩
    have z1 : x1.size ≤ 1 := by rw [← hx1, lst_size]; exact Nat.le_refl _
    have z2 : x2.size ≤ 19 := by rw [← hx2, lst_size]; exact g1
    have z3 : x3.size ≤ 20 := by rw [← hx3, lst_size, List.length_append]; simp; omega
    have z4 : x4.size ≤ 21 := by rw [← hx4, lst_size, List.length_append, List.length_append]; simp; omega
    have z5 : x5.size ≤ 19 := by rw [← hx5, lst_size]; exact g2
    rw [hx1] at a1 hl1
    rw [← hx2] at z2
    rw [hx3] at a1 a2
    rw [hx4] at a2 a3
    rw [← hx5] at z5
    have a2' : x3 ++ (⟨#[45]⟩ : ByteArray) = x4 := a2
    have l0 : (0 : Int) ≤ (i : Int) := by omega
    have l1 : (i : Int) < (n : Int) := by omega
    have s1 : ¬ x1.size + (lst (decDigits F)).size > 9223372036854775807 := by omega
    have s2 : ¬ x3.size + 1 > 9223372036854775807 := by omega
    have s3 : ¬ x4.size + (lst (decDigits T)).size > 9223372036854775807 := by omega
    have q0 : (0 : Int) ≤ (K : Int) + 1 := by omega
    have q2 : IntKind.i64.wrap ((K : Int) + 1) = (K : Int) + 1 := IntWalk.i64_in _ (by omega)
    have q1 : ∀ W, (Instr.slice 9 (.string ⟨#[63, 80, 76, 65, 73, 83, 88, 87, 82, 66, 85, 70, 72, 79, 67, 84, 78, 69, 77]⟩) (some (.int .i64 (K : Int))) (some (.int .i64 ((K : Int) + 1))) none).run Tryd.prog W = .ok (.string x1) W := fun W => by
      rw [run_slice_string (P := Tryd.prog) W _ _ .i64 .i64 (K : Int) ((K : Int) + 1) Tryd.underlying9 (by omega) (by omega) (by rw [show (⟨#[63, 80, 76, 65, 73, 83, 88, 87, 82, 66, 85, 70, 72, 79, 67, 84, 78, 69, 77]⟩ : ByteArray).size = 19 from rfl]; omega)]
      rw [show ((K : Int) + 1).toNat = K + 1 from by omega, show ((K : Int)).toNat = K from by omega, hl1]
    have HHH := Lib.hid hH
    clear z1 z2 z3 z4 z5 hx2 hx5
    clear ih hrow hN hs k1 f1 t1 f2 t2 g1 g2 hx1 hx3 hx4 a2 hH
    go_enter Tryd.func7, Tryd.ntmps7
    go_wp2_with fail
    go_quiet ((go_at_call 16; exact Calls.quiet_of_same (HDG.out _ _ (by first | exact .inl rfl | exact .inr rfl))))
    obtain ⟨W1, hW1⟩ : ∃ X, w.drewN nq = X := ⟨_, rfl⟩
    have HB1 : Hid (Below w.heap.size w W1) := Lib.hid (by rw [← hW1]; exact below_drewN (Below.refl _ _) _)
    rw [hW1]
    have hI0 : ShI nv n i (i + 1) 0 H := .inl ⟨rfl, fun j h1 h2 => by omega, HHH.out.symm⟩
    have HI0 := Lib.hid hI0
    clear hW1 hl1 a1 a2' a3 s1 s2 s3 q0 q2 c0 c1 c2 c3 HDG HH HHH hI0 l0 l1
    go_wp2_with fail
    go_loopw [5, 6, 7] (fun v5 v6 v7 wr => ShRl nv n i w v5 v6 v7 wr) (fun _ _ v7 _ => n - (intOf v7).toNat)
    case atStart => exact ⟨HB1.out, i + 1, 0, H, rfl, rfl, by go_num, by omega, by omega, by omega, HI0.out⟩
    case round =>
      obtain ⟨hB, k, c, t, rfl, rfl, rfl, hik, hkn, hck, hI⟩ := hrel
      have hlt := hI.len hi HNN.out hn
      have HI := Lib.hid hI
      have HB := Lib.hid hB
      clear HB1 HI0 hB hI
      by_cases hk : k < n
      · have t1 : (k : Int) < (n : Int) := by omega
        have t2 : (0 : Int) ≤ (k : Int) := by omega
        have hr := HROW.out.below HB.out
        obtain ⟨b', off', e1, _, d0, d1, d2, d3⟩ := hr k hk
        obtain ⟨rfl, rfl⟩ : b = b' ∧ off = off' := by simpa using e1
        obtain ⟨U, hU⟩ : ∃ U, (nv k).u = U := ⟨_, rfl⟩
        rw [hU] at d3
        by_cases hu : U = (i : Int)
        · have t3 : (U == (i : Int)) = true := by simp; exact hu
          have HIK := Lib.hid (HIH.out k hk (by omega) wr hr)
          have HUU : Hid ((nv k).u = (i : Int)) := Lib.hid (by rw [hU, hu])
          clear d0 d1 d2 hr e1 hU hu
          by_cases hc : c = 0
          · have t4 : ((c : Int) == 0) = true := by simp; omega
            have a1 := lst_app t [40]
            obtain ⟨x, hx⟩ : ∃ x, lst (t ++ [40]) = x := ⟨_, rfl⟩
            have a1' : lst t ++ (⟨#[40]⟩ : ByteArray) = x := a1.trans hx
            have s1 : ¬ (lst t).size + 1 > 9223372036854775807 := by rw [lst_size]; omega
            have HX := Lib.hid hx
            have hxs : x.size ≤ 4001 := by rw [← hx, lst_size, List.length_append]; simp; omega
            have HC := Lib.hid hc
            clear a1 hx hc
            go_wp2_with fail
            refine HIK.out.mono ?_
            rintro e w2 ⟨T, rfl, hT, hb2⟩
            have hTl := hT.len HNN.out hn
            have hkid := HI.out.kid HS.out hik hk HUU.out hT
            rw [if_pos HC.out] at hkid
            have a2 := lst_app (t ++ [40]) T
            rw [HX.out, List.append_assoc] at a2
            obtain ⟨y, hy⟩ : ∃ y, t ++ ([40] ++ T) = y := ⟨_, rfl⟩
            rw [hy] at a2 hkid
            have s2 : ¬ x.size + (lst T).size > 9223372036854775807 := by rw [lst_size]; omega
            have HKID := Lib.hid hkid
            have HB2 := Lib.hid (HB.out.trans (hb2.mono HB.out.size))
            clear hkid hT hb2 hy
            go_wp2
            go_roundw
            case rel => exact ⟨HB2.out, k + 1, c + 1, y, rfl, by go_num, by go_num, by omega, by omega, by omega, HKID.out⟩
            case measure => simp [intOf]; omega
          · have t4 : ((c : Int) == 0) = false := by simp; omega
            have a1 := lst_app t [32]
            obtain ⟨x, hx⟩ : ∃ x, lst (t ++ [32]) = x := ⟨_, rfl⟩
            have a1' : lst t ++ (⟨#[32]⟩ : ByteArray) = x := a1.trans hx
            have s1 : ¬ (lst t).size + 1 > 9223372036854775807 := by rw [lst_size]; omega
            have HX := Lib.hid hx
            have hxs : x.size ≤ 4001 := by rw [← hx, lst_size, List.length_append]; simp; omega
            have HC := Lib.hid hc
            clear a1 hx hc
            go_wp2_with fail
            refine HIK.out.mono ?_
            rintro e w2 ⟨T, rfl, hT, hb2⟩
            have hTl := hT.len HNN.out hn
            have hkid := HI.out.kid HS.out hik hk HUU.out hT
            rw [if_neg HC.out] at hkid
            have a2 := lst_app (t ++ [32]) T
            rw [HX.out, List.append_assoc] at a2
            obtain ⟨y, hy⟩ : ∃ y, t ++ ([32] ++ T) = y := ⟨_, rfl⟩
            rw [hy] at a2 hkid
            have s2 : ¬ x.size + (lst T).size > 9223372036854775807 := by rw [lst_size]; omega
            have HKID := Lib.hid hkid
            have HB2 := Lib.hid (HB.out.trans (hb2.mono HB.out.size))
            clear hkid hT hb2 hy
            go_wp2
            go_roundw
            case rel => exact ⟨HB2.out, k + 1, c + 1, y, rfl, by go_num, by go_num, by omega, by omega, by omega, HKID.out⟩
            case measure => simp [intOf]; omega
        · have t3 : (U == (i : Int)) = false := by simp; exact hu
          have HSK := Lib.hid (HI.out.skip (by rw [hU]; exact hu))
          clear d0 d1 d2 hr e1 hU hu
          go_wp2_with fail
          go_roundw
          case rel => exact ⟨HB.out, k + 1, c, t, rfl, rfl, by go_num, by omega, by omega, by omega, HSK.out⟩
          case measure => simp [intOf]; omega
      · obtain rfl : n = k := by omega
        have hT := HI.out.fin HS.out hi
        by_cases hc : c = 0
        · have t4 : ¬ (0 : Int) < (c : Int) := by omega
          rw [if_neg (by omega), List.append_nil] at hT
          have HT := Lib.hid hT
          clear hT hc
          go_wp2_with fail
          go_ret
          exact ⟨t, rfl, HT.out, HB.out⟩
        · have t4 : (0 : Int) < (c : Int) := by omega
          rw [if_pos (by omega)] at hT
          have a1 := lst_app t [41]
          have a1' : lst t ++ (⟨#[41]⟩ : ByteArray) = lst (t ++ [41]) := a1
          have s1 : ¬ (lst t).size + 1 > 9223372036854775807 := by rw [lst_size]; omega
          obtain ⟨y, hy⟩ : ∃ y, t ++ [41] = y := ⟨_, rfl⟩
          rw [hy] at a1' hT
          have HT := Lib.hid hT
          clear hT hc a1 hy
          go_wp2_with fail
          go_ret
          exact ⟨y, rfl, HT.out, HB.out⟩
end
end Go.Proofs.YtdiolfniaiojfaaDoor

/- The tree of one command of so many words: it is right; each node's kids, row and form. -/
import Derived.Test.YtmjckjbdkffkoaaDoorRuAd
import Derived.Test.YtmjckjbdkffkoaaDoorRuX
import Derived.Test.YtmjckjbdkffkoaaDoorRuG
namespace Go.Proofs.YtmjckjbdkffkoaaDoor
open Go.RowKit
set_option linter.unusedVariables false

def smN (n : Nat) : Nat → Nd := nl (smpL n n)
theorem sm0 (n : Nat) : smN n 0 = ⟨1, 0, n, -1⟩ := rfl
theorem sm1 (n : Nat) : smN n 1 = ⟨2, 0, n, 0⟩ := rfl
theorem sm2 (n : Nat) : smN n 2 = ⟨3, 0, n, 1⟩ := rfl
theorem sm3 (n : Nat) : smN n 3 = ⟨4, 0, n, 2⟩ := rfl
theorem sm4 (n : Nat) : smN n 4 = ⟨5, 0, n, 3⟩ := rfl
theorem smw {n j : Nat} (h : j < n) : smN n (j + 5) = ⟨7, (j : Int), (j : Int) + 1, 4⟩ := by
  refine nl_at ?_
  unfold smpL
  rw [List.getElem?_append_right (by simp)]
  simp [h]
theorem sm_rt (n : Nat) : Rt (smN n) (n + 5) n where
  pos := by omega
  u0 := by rw [sm0]
  f0 := by rw [sm0]
  t0 := by rw [sm0]
  ok := fun i hi => by
    match i, hi with
    | 0, _ => exact ⟨by rw [sm0]; dsimp only; decide, by rw [sm0]; dsimp only; decide, by rw [sm0]; exact Int.natCast_nonneg n, fun h => absurd h (Nat.lt_irrefl _)⟩
    | 1, _ => exact ⟨by rw [sm1]; dsimp only; decide, by rw [sm1]; dsimp only; decide, by rw [sm1]; exact Int.natCast_nonneg n, fun _ => ⟨0, by rw [sm1]; rfl, by omega, .self, by rw [sm0, sm1]; exact Int.le_refl _, by rw [sm0, sm1]; exact Int.le_refl _, fun k h1 h2 => by omega⟩⟩
    | 2, _ => exact ⟨by rw [sm2]; dsimp only; decide, by rw [sm2]; dsimp only; decide, by rw [sm2]; exact Int.natCast_nonneg n, fun _ => ⟨1, by rw [sm2]; rfl, by omega, .self, by rw [sm1, sm2]; exact Int.le_refl _, by rw [sm1, sm2]; exact Int.le_refl _, fun k h1 h2 => by
        obtain rfl : k = 1 := by omega
        rw [sm1]; intro h; exact absurd h (by dsimp only; decide)⟩⟩
    | 3, _ => exact ⟨by rw [sm3]; dsimp only; decide, by rw [sm3]; dsimp only; decide, by rw [sm3]; exact Int.natCast_nonneg n, fun _ => ⟨2, by rw [sm3]; rfl, by omega, .self, by rw [sm2, sm3]; exact Int.le_refl _, by rw [sm2, sm3]; exact Int.le_refl _, fun k h1 h2 => by
        rcases (by omega : k = 1 ∨ k = 2) with rfl | rfl
        · rw [sm1]; intro h; exact absurd h (by dsimp only; decide)
        · rw [sm2]; intro h; exact absurd h (by dsimp only; decide)⟩⟩
    | 4, _ => exact ⟨by rw [sm4]; dsimp only; decide, by rw [sm4]; dsimp only; decide, by rw [sm4]; exact Int.natCast_nonneg n, fun _ => ⟨3, by rw [sm4]; rfl, by omega, .self, by rw [sm3, sm4]; exact Int.le_refl _, by rw [sm3, sm4]; exact Int.le_refl _, fun k h1 h2 => by
        rcases (by omega : k = 1 ∨ k = 2 ∨ k = 3) with rfl | rfl | rfl
        · rw [sm1]; intro h; exact absurd h (by dsimp only; decide)
        · rw [sm2]; intro h; exact absurd h (by dsimp only; decide)
        · rw [sm3]; intro h; exact absurd h (by dsimp only; decide)⟩⟩
    | j + 5, hj =>
      have hjn : j < n := by omega
      refine ⟨by rw [smw hjn]; dsimp only; decide, by rw [smw hjn]; dsimp only; decide, by rw [smw hjn]; dsimp only; omega, fun _ => ⟨4, by rw [smw hjn]; rfl, by omega, ?_, by rw [smw hjn, sm4]; dsimp only; omega, by rw [smw hjn, sm4]; dsimp only; omega, fun k h1 h2 => ?_⟩⟩
      · match j, hjn with
        | 0, _ => exact .self
        | j + 1, h => exact .up (c := 4) (by rw [show j + 1 + 5 - 1 = j + 5 from by omega, smw (by omega : j < n)]; rfl) (by omega) .self
      · have hk : k = 1 ∨ k = 2 ∨ k = 3 ∨ k = 4 ∨ ∃ j', k = j' + 5 ∧ j' < j := by
          by_cases g : 5 ≤ k
          · exact .inr (.inr (.inr (.inr ⟨k - 5, by omega, by omega⟩)))
          · omega
        rcases hk with rfl | rfl | rfl | rfl | ⟨j', rfl, hj'⟩
        · rw [sm1]; intro h; exact absurd h (by dsimp only; decide)
        · rw [sm2]; intro h; exact absurd h (by dsimp only; decide)
        · rw [sm3]; intro h; exact absurd h (by dsimp only; decide)
        · rw [sm4]; intro h; exact absurd h (by dsimp only; decide)
        · intro _
          rw [smw (by omega : j' < n), smw hjn]
          dsimp only
          omega
theorem kid_tail (n : Nat) (u : Int) : ∀ d j, j + d = n → kidK (smN n) (n + 5) u (j + 5) = if u = 4 then List.range' (j + 5) d else []
  | 0, j, h => by
    rw [kidK_end _ _ (by omega)]
    split <;> rfl
  | d + 1, j, h => by
    rw [kidK_step _ _ (by omega), smw (by omega : j < n), show j + 5 + 1 = j + 1 + 5 from by omega, kid_tail n u d (j + 1) (by omega)]
    dsimp only
    by_cases hu : u = 4
    · rw [if_pos hu, if_pos hu.symm, if_pos hu, List.range'_succ, show j + 5 + 1 = j + 1 + 5 from by omega]
    · rw [if_neg hu, if_neg (Ne.symm hu), if_neg hu]
theorem kid_head (n : Nat) (u : Int) : kidK (smN n) (n + 5) u 1 = (if (0 : Int) = u then [1] else []) ++ ((if (1 : Int) = u then [2] else []) ++ ((if (2 : Int) = u then [3] else []) ++ ((if (3 : Int) = u then [4] else []) ++ (if u = 4 then List.range' 5 n else [])))) := by
  rw [kidK_step _ _ (by omega), kidK_step _ _ (by omega), kidK_step _ _ (by omega), kidK_step _ _ (by omega), sm1, sm2, sm3, sm4, show 4 + 1 = 0 + 5 from rfl, kid_tail n u n 0 (by omega)]
  dsimp only
  split <;> split <;> split <;> split <;> simp
theorem kid0 (n : Nat) : kidK (smN n) (n + 5) ((0 : Nat) : Int) 1 = [1] := by rw [kid_head]; rfl
theorem kid1 (n : Nat) : kidK (smN n) (n + 5) ((1 : Nat) : Int) 1 = [2] := by rw [kid_head]; rfl
theorem kid2 (n : Nat) : kidK (smN n) (n + 5) ((2 : Nat) : Int) 1 = [3] := by rw [kid_head]; rfl
theorem kid3 (n : Nat) : kidK (smN n) (n + 5) ((3 : Nat) : Int) 1 = [4] := by rw [kid_head]; rfl
theorem kid4 (n : Nat) : kidK (smN n) (n + 5) ((4 : Nat) : Int) 1 = List.range' 5 n := by rw [kid_head]; rfl
theorem kidw (n j : Nat) : kidK (smN n) (n + 5) ((j + 5 : Nat) : Int) 1 = [] := by
  rw [kid_head, if_neg (by omega), if_neg (by omega), if_neg (by omega), if_neg (by omega), if_neg (by omega)]
  rfl
theorem kdt_one {n k : Nat} (h1 : 1 ≤ (smN n k).k) (h2 : (smN n k).k ≤ 18) (h3 : (smN n k).f = 0) (h4 : (smN n k).t = (n : Int)) : KdT (smN n) [k] 0 n :=
  ⟨h1, h2, h3, by rw [h4]; omega, by rw [h4]; omega, by rw [h4]; exact Nat.le_of_eq (Int.toNat_natCast n)⟩
theorem row_one {sg : Nat → Nat} {n k : Nat} (h4 : (smN n k).t = (n : Int)) : rowTg sg (smN n) [k] 0 n = [letN (smN n k).k] := by
  unfold rowTg rowK endK endK
  rw [h4, Int.toNat_natCast, Nat.sub_self]
  rfl
theorem kdt_words (n : Nat) : ∀ d j, j + d = n → KdT (smN n) (List.range' (j + 5) d) j n
  | 0, j, h => by
    show j ≤ n
    omega
  | d + 1, j, h => by
    rw [List.range'_succ]
    refine ⟨?_, ?_, ?_, ?_, ?_, ?_⟩
    · rw [smw (by omega : j < n)]; dsimp only; decide
    · rw [smw (by omega : j < n)]; dsimp only; decide
    · rw [smw (by omega : j < n)]
    · rw [smw (by omega : j < n)]; dsimp only; omega
    · rw [smw (by omega : j < n)]; dsimp only; omega
    · rw [smw (by omega : j < n)]
      have := kdt_words n d (j + 1) (by omega)
      rwa [show j + 1 + 5 = j + 5 + 1 from by omega, show j + 1 = ((j : Int) + 1).toNat from by omega] at this
theorem row_words {sg : Nat → Nat} (n : Nat) : ∀ d j, j + d = n → rowTg sg (smN n) (List.range' (j + 5) d) j n = List.replicate d 87
  | 0, j, h => by
    show segP sg j (n - j) = []
    rw [show n - j = 0 from by omega]
    rfl
  | d + 1, j, h => by
    rw [List.range'_succ, rowTg_cons, smw (by omega : j < n)]
    have := row_words (sg := sg) n d (j + 1) (by omega)
    rw [show j + 1 + 5 = j + 5 + 1 from by omega] at this
    dsimp only
    rw [show ((j : Int) + 1).toNat = j + 1 from by omega, this, List.replicate_succ]
    rfl
theorem btsN_bt {L : List Nat} {i : Nat} (h : i < L.length) : bt (btsN L) i = (L[i]).toUInt8 := by
  have hs : i < (btsN L).size := by
    show i < ((L.map fun x => x.toUInt8).toArray).size
    simpa using h
  unfold bt
  rw [dif_pos hs]
  show ((L.map fun x => x.toUInt8).toArray)[i]'_ = _
  simp
theorem btsN_size (L : List Nat) : (btsN L).size = L.length := by
  show ((L.map fun x => x.toUInt8).toArray).size = _
  simp
theorem fm_words {n : Nat} (hn : 1 ≤ n) : FmOk 5 (btsN (List.replicate n 87)) :=
  .inr (.inr (.inr (.inr (.inl ⟨rfl, by rw [btsN_size, List.length_replicate]; exact hn, fun i hi => by
    rw [btsN_size] at hi
    rw [btsN_bt hi, List.getElem_replicate]
    rfl⟩))))
theorem wdS_in (s : ByteArray) : 0 ≤ Lib.indexByte wordsT.data.toList (wdS s).toUInt8 := by
  have h1 : ∀ p ∈ wdL, 0 ≤ Lib.indexByte wordsT.data.toList (p.2 : Nat).toUInt8 := by decide +kernel
  unfold wdS
  cases h : wdL.find? (fun p => s.data.toList == p.1) with
  | none => show 0 ≤ Lib.indexByte wordsT.data.toList (120 : Nat).toUInt8; decide +kernel
  | some p => exact h1 p (List.mem_of_find?_eq_some h)
theorem fm_word (s : ByteArray) : FmOk 7 (btsN [sgn 6 s]) := by
  refine .inr (.inr (.inr (.inr (.inr ⟨rfl, by rw [btsN_size]; rfl, ?_⟩))))
  rw [btsN_bt (by simp)]
  exact wdS_in s
end Go.Proofs.YtmjckjbdkffkoaaDoor

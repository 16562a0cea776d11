/- The constants of the rounds, and rounds lane by lane: plain mathematics. No program's text is named. -/
import Derived.Test.YtkoecgoajbgkgaaDoorKMath4
namespace Go.Proofs.YtkoecgoajbgkgaaDoor
set_option linter.unusedSimpArgs false
set_option linter.unusedVariables false

/-- What is added in each round. -/
def kst : List Nat := [0x0000000000000001, 0x0000000000008082, 0x800000000000808a, 0x8000000080008000, 0x000000000000808b, 0x0000000080000001, 0x8000000080008081, 0x8000000000008009,
  0x000000000000008a, 0x0000000000000088, 0x0000000080008009, 0x000000008000000a, 0x000000008000808b, 0x800000000000008b, 0x8000000000008089, 0x8000000000008003,
  0x8000000000008002, 0x8000000000000080, 0x000000000000800a, 0x800000008000000a, 0x8000000080008081, 0x8000000000008080, 0x0000000080000001, 0x8000000080008008]
theorem kst_eq : ∀ i, i < 24 → ofB (ioT i 7) 64 = kst.getD i 0 := by decide +kernel
theorem kst_lt : ∀ i, i < 24 → kst.getD i 0 < 18446744073709551616 := by decide
theorem ioL_xor (x i : Nat) (hx : x < 18446744073709551616) (hi : i < 24) : ioL x i 7 = x ^^^ kst.getD i 0 := by
  rw [← kst_eq i hi]
  refine ext64 (ioL_lt _ _ _) (xor_lt64 hx (ofB_64 _ _ (Nat.le_refl _))) fun z hz => ?_
  unfold ioL
  rw [bt_xor, ofB_bt _ _ hz, ofB_bt _ _ hz]
  unfold ioG
  have hb := bt_lt x z
  have hc : bt x z = 0 ∨ bt x z = 1 := by omega
  rw [show x / 2 ^ z % 2 = bt x z from rfl]
  rcases hc with hc | hc <;> cases ioT i 7 z <;> simp [hc]

/-! ### Only the 25 lanes count -/
theorem bitN_congr {f g : Nat → Nat} (h : ∀ i, i < 25 → f i = g i) (x y z : Nat) (hx : x < 5) (hy : y < 5) : bitN f x y z = bitN g x y z := by
  unfold bitN
  rw [h _ (by omega)]
theorem thN_congr {f g : Nat → Nat} (h : ∀ i, i < 25 → f i = g i) (x z : Nat) : ∀ Y, Y ≤ 5 → thN f x z Y = thN g x z Y
  | 0, _ => rfl
  | Y + 1, hY => by
    unfold thN
    rw [thN_congr h x z Y (by omega), bitN_congr h _ Y z (by omega) (by omega), bitN_congr h _ Y _ (by omega) (by omega)]
theorem thF_congr {f g : Nat → Nat} (h : ∀ i, i < 25 → f i = g i) (k : Nat) (hk : k < 25) : thF f k = thF g k := by
  unfold thF
  refine ofB_congr 64 fun z hz => ?_
  unfold thB
  rw [thN_congr h _ z 5 (Nat.le_refl _), bitN_congr h _ _ z (by omega) (by omega)]
theorem rhF_congr {f g : Nat → Nat} (h : ∀ i, i < 25 → f i = g i) (k : Nat) (hk : k < 25) : rhF f k = rhF g k := by
  unfold rhF
  split
  · exact h 0 (by omega)
  · rename_i h0
    refine ofB_congr 64 fun z hz => ?_
    unfold rhG
    have hxy := rhXY_lt (rhTau k) (by have := (rhPos_tau k hk h0).1; omega)
    rw [bitN_congr h _ _ _ hxy.1 hxy.2]
theorem piF_congr {f g : Nat → Nat} (h : ∀ i, i < 25 → f i = g i) (k : Nat) (hk : k < 25) : piF f k = piF g k := h _ (by omega)
theorem chF_congr {f g : Nat → Nat} (h : ∀ i, i < 25 → f i = g i) (k : Nat) (hk : k < 25) : chF f k = chF g k := by
  unfold chF
  refine ofB_congr 64 fun z hz => ?_
  unfold chB
  rw [bitN_congr h _ _ z (by omega) (by omega), bitN_congr h ((k % 5 + 1) % 5) _ z (by omega) (by omega), bitN_congr h ((k % 5 + 2) % 5) _ z (by omega) (by omega)]
theorem ioF_congr {f g : Nat → Nat} (h : ∀ i, i < 25 → f i = g i) (i k : Nat) (hk : k < 25) : ioF f i k = ioF g i k := by
  unfold ioF
  split
  · rw [h 0 (by omega)]
  · exact h k hk
theorem rdF_congr {f g : Nat → Nat} (h : ∀ i, i < 25 → f i = g i) (i k : Nat) (hk : k < 25) : rdF f i k = rdF g i k :=
  ioF_congr (fun _ h4 => chF_congr (fun _ h3 => piF_congr (fun _ h2 => rhF_congr (fun _ h1 => thF_congr h _ h1) _ h2) _ h3) _ h4) i k hk
theorem rdsF_congr {f g : Nat → Nat} (h : ∀ i, i < 25 → f i = g i) : ∀ n k, k < 25 → rdsF f n k = rdsF g n k
  | 0, k, hk => h k hk
  | n + 1, k, hk => rdF_congr (rdsF_congr h n) n k hk

/-! ### A round, lane by lane -/
def ioK (f : Nat → Nat) (i k : Nat) : Nat := if k = 0 then f 0 ^^^ kst.getD i 0 else f k
def rdL (f : Nat → Nat) (i : Nat) : Nat → Nat := ioK (chL (piF (rhL (thL f)))) i
theorem rdL_eq (f : Nat → Nat) (hf : ∀ i, f i < 18446744073709551616) (i : Nat) (hi : i < 24) (k : Nat) (hk : k < 25) : rdL f i k = rdF f i k := by
  have h1 : ∀ j, j < 25 → thL f j = thF f j := fun j hj => thL_eq f hf j hj
  have h2 : ∀ j, j < 25 → rhL (thL f) j = rhF (thF f) j := fun j hj => (rhL_eq _ (thL_lt f hf) j hj).trans (rhF_congr h1 j hj)
  have h3 : ∀ j, j < 25 → piF (rhL (thL f)) j = piF (rhF (thF f)) j := fun j hj => piF_congr h2 j hj
  have h4 : ∀ j, j < 25 → chL (piF (rhL (thL f))) j = chF (piF (rhF (thF f))) j := fun j hj =>
    (chL_eq _ (piF_lt _ (rhL_lt _ (thL_lt f hf))) j hj).trans (chF_congr h3 j hj)
  unfold rdL rdF ioK ioF
  by_cases e : k = 0
  · rw [if_pos e, if_pos e, ioL_xor _ _ (chF_lt _ _) hi, h4 0 (by omega)]
  · rw [if_neg e, if_neg e, h4 k hk]
theorem rdL_lt (f : Nat → Nat) (hf : ∀ i, f i < 18446744073709551616) (i : Nat) (hi : i < 24) (k : Nat) : rdL f i k < 18446744073709551616 := by
  unfold rdL ioK
  have h := chL_lt _ (piF_lt _ (rhL_lt _ (thL_lt f hf)))
  split
  · exact xor_lt64 (h 0) (kst_lt i hi)
  · exact h k
/-- The first n rounds, lane by lane. -/
def rdsL (f : Nat → Nat) : Nat → Nat → Nat
  | 0 => f
  | n + 1 => rdL (rdsL f n) n
theorem rdsL_lt (f : Nat → Nat) (hf : ∀ i, f i < 18446744073709551616) : ∀ n, n ≤ 24 → ∀ k, rdsL f n k < 18446744073709551616
  | 0, _, k => hf k
  | n + 1, hn, k => rdL_lt _ (rdsL_lt f hf n (by omega)) n (by omega) k
theorem rdsL_eq (f : Nat → Nat) (hf : ∀ i, f i < 18446744073709551616) : ∀ n, n ≤ 24 → ∀ k, k < 25 → rdsL f n k = rdsF f n k
  | 0, _, _, _ => rfl
  | n + 1, hn, k, hk => (rdL_eq _ (rdsL_lt f hf n (by omega)) n (by omega) k hk).trans (rdF_congr (rdsL_eq f hf n (by omega)) n k hk)
theorem rdsL_st (f : Nat → Nat) (hf : ∀ i, f i < 18446744073709551616) : stL (rdsL f 24) = stL (rdsF f 24) := stL_congr fun k hk => rdsL_eq f hf 24 (Nat.le_refl _) k hk
end Go.Proofs.YtkoecgoajbgkgaaDoor

/- What the code of bytes comes to where it is plain to see: mathematics. No program's text is named. -/
import Derived.Test.YtcelhlpopdcaaaaDoorPMath4
namespace Go.Proofs.YtcelhlpopdcaaaaDoor
set_option linter.unusedSimpArgs false
set_option linter.unusedVariables false

theorem mcP_nil (k : List UInt8) (hk : k.length = 32) : mcP k [] = k.drop 16 := by
  have hl : (k.drop 16).length = 16 := by rw [List.length_drop, hk]
  rw [mcP_none, List.take_of_length_le (by omega)]
  exact bytes_leN _ _ hl
theorem accN_zero (b : List UInt8) : ∀ j, accN 0 b j = 0
  | 0 => rfl
  | j + 1 => by
    show (accN 0 b j + blkN b j) * 0 % p8 = 0
    rw [Nat.mul_zero, Nat.zero_mod]
theorem mcP_zero (k b : List UInt8) (hk : k.length = 32) (h : leN (clP k) = 0) : mcP k b = k.drop 16 := by
  have hl : (k.drop 16).length = 16 := by rw [List.length_drop, hk]
  unfold mcP
  rw [h, accN_zero, Nat.zero_add, List.take_of_length_le (by omega)]
  exact bytes_leN _ _ hl
theorem mcP_congr (k k2 b : List UInt8) (h1 : clP k = clP k2) (h2 : k.drop 16 = k2.drop 16) : mcP k b = mcP k2 b := by
  unfold mcP
  rw [h1, h2]
theorem ext_getD {x y : List UInt8} {n : Nat} (hx : x.length = n) (hy : y.length = n) (h : ∀ i, i < n → x.getD i 0 = y.getD i 0) : x = y := by
  refine List.ext_getElem (by omega) fun i h1 h2 => ?_
  have := h i (by omega)
  simpa [h1, h2] using this
theorem clP_ext (k k2 : List UInt8) (h : ∀ i, i < 16 → (k.getD i 0).toNat &&& kpL.getD i 0 = (k2.getD i 0).toNat &&& kpL.getD i 0) : clP k = clP k2 := by
  refine ext_getD (clP_length k) (clP_length k2) fun i hi => ?_
  refine UInt8.toNat_inj.1 ?_
  rw [clP_get k i hi, clP_get k2 i hi, h i hi]
/-- A key with bits turned that do not count. -/
def twB (k m : List UInt8) (i : Nat) : UInt8 := if i < 16 ∧ i % 4 = 3 then k.getD i 0 ^^^ (m.getD i 0 &&& 240) else if i < 16 ∧ i % 4 = 0 ∧ 0 < i then k.getD i 0 ^^^ (m.getD i 0 &&& 3) else k.getD i 0
def twL (k m : List UInt8) : List UInt8 := (List.range 32).map (twB k m)
theorem twL_length (k m : List UInt8) : (twL k m).length = 32 := by simp [twL]
theorem twL_get (k m : List UInt8) (i : Nat) (hi : i < 32) : (twL k m).getD i 0 = twB k m i := by
  unfold twL
  rw [List.getD_eq_getElem?_getD, List.getElem?_map, List.getElem?_range hi]
  rfl
theorem tw_15 (x y : UInt8) : (x ^^^ (y &&& 240)).toNat &&& 15 = x.toNat &&& 15 := by
  rw [UInt8.toNat_xor, UInt8.toNat_and, Nat.and_xor_distrib_right, Nat.and_assoc, show (240 : UInt8).toNat &&& 15 = 0 by decide, Nat.and_zero, Nat.xor_zero]
theorem tw_252 (x y : UInt8) : (x ^^^ (y &&& 3)).toNat &&& 252 = x.toNat &&& 252 := by
  rw [UInt8.toNat_xor, UInt8.toNat_and, Nat.and_xor_distrib_right, Nat.and_assoc, show (3 : UInt8).toNat &&& 252 = 0 by decide, Nat.and_zero, Nat.xor_zero]
theorem clP_tw (k m : List UInt8) : clP (twL k m) = clP k := by
  refine clP_ext _ _ fun i hi => ?_
  rw [twL_get k m i (by omega)]
  unfold twB
  rcases kp_kind i hi with ⟨h1, h2⟩ | ⟨h1, h2⟩ | ⟨h1, h2⟩
  · rw [if_pos ⟨hi, h1⟩, h2, tw_15]
  · rw [if_neg (by omega), if_pos ⟨hi, h1⟩, h2, tw_252]
  · rw [if_neg (by omega), if_neg (by omega)]
theorem drop_tw (k m : List UInt8) (hk : k.length = 32) : (twL k m).drop 16 = k.drop 16 := by
  refine ext_getD (n := 16) (by rw [List.length_drop, twL_length]) (by rw [List.length_drop, hk]) fun i hi => ?_
  rw [List.getD_eq_getElem?_getD, List.getElem?_drop, ← List.getD_eq_getElem?_getD, twL_get k m _ (by omega), List.getD_eq_getElem?_getD (l := k.drop 16), List.getElem?_drop, ← List.getD_eq_getElem?_getD]
  unfold twB
  rw [if_neg (by omega), if_neg (by omega)]
theorem mcP_tw (k m b : List UInt8) (hk : k.length = 32) : mcP (twL k m) b = mcP k b := mcP_congr _ _ _ (clP_tw k m) (drop_tw k m hk)
theorem rep_get (n i : Nat) : (List.replicate n (0 : UInt8)).getD i 0 = 0 := by
  rw [List.getD_eq_getElem?_getD, List.getElem?_replicate]
  split <;> rfl
/-- A key whose first half is nought. -/
def zfL (k : List UInt8) : List UInt8 := List.replicate 16 0 ++ k.drop 16
theorem zfL_length (k : List UInt8) (hk : k.length = 32) : (zfL k).length = 32 := by simp [zfL, hk]
theorem zfL_get (k : List UInt8) (i : Nat) (hi : i < 16) : (zfL k).getD i 0 = 0 := by
  unfold zfL
  rw [List.getD_eq_getElem?_getD, List.getElem?_append_left (by simpa using hi), ← List.getD_eq_getElem?_getD]
  exact rep_get 16 i
theorem clP_zf (k : List UInt8) : leN (clP (zfL k)) = 0 := by
  have : clP (zfL k) = List.replicate 16 0 := by
    refine ext_getD (clP_length _) (by simp) fun i hi => ?_
    refine UInt8.toNat_inj.1 ?_
    rw [clP_get _ i hi, zfL_get k i hi, rep_get]
    exact Nat.zero_and _
  rw [this, leN_zeros]
theorem mcP_zf (k b : List UInt8) (hk : k.length = 32) : mcP (zfL k) b = k.drop 16 := by
  rw [mcP_zero _ _ (zfL_length k hk) (clP_zf k)]
  unfold zfL
  rw [List.drop_left' (by simp)]
/-! ### A byte alone, with the factor 1 -/
/-- The key 1, and eight bytes of a number as its second half. -/
def onK (n : Nat) : List UInt8 := 1 :: (List.replicate 15 0 ++ ((List.range 7).map (stB n) ++ List.replicate 9 0))
theorem onK_length (n : Nat) : (onK n).length = 32 := by simp [onK]
theorem onK_drop (n : Nat) : (onK n).drop 16 = (List.range 7).map (stB n) ++ List.replicate 9 0 := by
  unfold onK
  rw [List.drop_succ_cons, List.drop_left' (by simp)]
theorem leN_onK (n : Nat) : leN ((onK n).drop 16) = n % 72057594037927936 := by
  rw [onK_drop, leN_append, leN_zeros, Nat.mul_zero, Nat.add_zero, leN_stB]
theorem onK_get0 (n : Nat) : (onK n).getD 0 0 = 1 := rfl
theorem onK_get (n i : Nat) (h0 : 0 < i) (h : i < 16) : (onK n).getD i 0 = 0 := by
  unfold onK
  obtain ⟨j, rfl⟩ : ∃ j, i = j + 1 := ⟨i - 1, by omega⟩
  rw [List.getD_cons_succ, List.getD_eq_getElem?_getD, List.getElem?_append_left (by simp; omega), ← List.getD_eq_getElem?_getD]
  exact rep_get 15 j
theorem clP_onK (n : Nat) : leN (clP (onK n)) = 1 := by
  have : clP (onK n) = 1 :: List.replicate 15 0 := by
    refine ext_getD (clP_length _) (by simp) fun i hi => ?_
    refine UInt8.toNat_inj.1 ?_
    rw [clP_get _ i hi]
    rcases Nat.eq_zero_or_pos i with rfl | h0
    · rw [onK_get0]
      decide
    · rw [onK_get n i h0 hi]
      obtain ⟨j, rfl⟩ : ∃ j, i = j + 1 := ⟨i - 1, by omega⟩
      rw [List.getD_cons_succ, rep_get]
      exact Nat.zero_and _
  rw [this]
  simp [leN, leN_zeros]
theorem mcP_onK (n : Nat) (c : UInt8) : mcP (onK n) [c] = (List.range 16).map (stB (c.toNat + 256 + n % 72057594037927936)) := by
  unfold mcP
  rw [List.take_of_length_le (by rw [List.length_drop, onK_length]; decide), leN_onK, clP_onK]
  have h : accN 1 [c] (nblk [c].length) = c.toNat + 256 := by
    have hn : nblk [c].length = 1 := by rw [List.length_singleton]; decide
    rw [hn]
    show (0 + blkN [c] 0) * 1 % p8 = _
    have hc := c.toNat_lt
    rw [Nat.zero_add, Nat.mul_one, p8_val]
    have : blkN [c] 0 = c.toNat + 256 := by
      simp [blkN, leN]
    rw [this]
    omega
  rw [h]
end Go.Proofs.YtcelhlpopdcaaaaDoor

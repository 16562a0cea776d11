/- What the proofs of this seat stand on and that names no program: memory, rows, arrays, regions, and plain mathematics; several texts in one. -/
import Derived.Test.YtmhbjaampobcbaaGreatDoorEvs
import Derived.Test.YtmhbjaampobcbaaGreatDoorBase
import Derived.Test.YtmhbjaampobcbaaGreatDoorNum
import Derived.Test.YtmhbjaampobcbaaGreatDoorJm
import Derived.Test.YtmhbjaampobcbaaGreatDoorKec

namespace Go.Proofs.YtmhbjaampobcbaaGreatDoor
set_option linter.unusedSimpArgs false
set_option linter.unusedVariables false

def laN (f : Nat → Nat) (n : Nat) : Nat := wv ((List.range n).map f)
theorem la_byte (f : Nat → Nat) (hf : ∀ i, f i < 18446744073709551616) (n k : Nat) (hk : k < 8 * n) : laN f n / 256 ^ k % 256 = (byF f k).toNat := by
 have h := word_digit ((List.range n).map f) (k / 8) (k % 8) (by simpa using fun i _ => hf i) (by simp; omega) (Nat.mod_lt _ (by decide))
 rw [Nat.div_add_mod] at h
 unfold dg at h
 unfold laN
 rw [h]
 unfold byF stB
 rw [UInt8.toNat_ofNat']
 have : k / 8 < n := by omega
 simp [this]
def dg12 (B : Nat) : Nat → List Nat
 | 0 => []
 | n + 1 => frc B fun b => b % 4096 :: dg12 (b / 4096) n
theorem dg12_eq (B : Nat) : ∀ n, dg12 B n = (List.range n).map fun c => B / 4096 ^ c % 4096
 | 0 => rfl
 | n + 1 => by
  rw [dg12, frc_eq, dg12_eq (B / 4096) n, List.range_succ_eq_map, List.map_cons, List.map_map]
  congr 1
  ·rw [Nat.pow_zero, Nat.div_one]
  ·refine List.map_congr_left fun c _ => ?_
   simp only [Function.comp]
   rw [Nat.pow_succ, Nat.mul_comm, Nat.div_div_eq_div_mul]
theorem pair12 (X : Nat) : X % 4096 = X % 256 + 256 * (X / 256 % 256 % 16) ∧ X / 4096 % 4096 = X / 256 % 256 / 16 + 16 * (X / 65536 % 256) := by omega
theorem cd_digit (f : Nat → Nat) (hf : ∀ t i, itF f t i < 18446744073709551616) (t c : Nat) (hc : c < 112) : cdN (smF f 168) (112 * t + c) = laN (itF f t) 21 / 4096 ^ c % 4096 := by
 have hb : ∀ k, k < 168 → ((smF f 168 (168 * t + k)).toNat) = laN (itF f t) 21 / 256 ^ k % 256 := fun k hk => by
  rw [la_byte _ (hf t) 21 k (by omega)]
  unfold smF
  rw [show (168 * t + k) / 168 = t by omega, show (168 * t + k) % 168 = k by omega]
 obtain ⟨q, hq⟩ : ∃ q, q = c / 2 := ⟨_, rfl⟩
 have e1 : 3 * ((112 * t + c) / 2) = 168 * t + 3 * q := by omega
 have hX : ∀ j, laN (itF f t) 21 / 256 ^ (3 * q + j) = laN (itF f t) 21 / 256 ^ (3 * q) / 256 ^ j := fun j => by rw [Nat.pow_add, Nat.div_div_eq_div_mul]
 have h0 := hb (3 * q) (by omega)
 have h1 := hb (3 * q + 1) (by omega)
 rw [hX] at h1
 unfold cdN
 rw [e1, Nat.add_assoc, Nat.add_assoc, h0, h1]
 have hp := pair12 (laN (itF f t) 21 / 256 ^ (3 * q))
 have h256 : 256 ^ (3 * q) = 4096 ^ (2 * q) := by
  rw [Nat.pow_mul, Nat.pow_mul]
 by_cases hev : (112 * t + c) % 2 = 0
 ·rw [if_pos hev, show c = 2 * q by omega, ← h256, hp.1, Nat.pow_one]
 ·have h2 := hb (3 * q + 2) (by omega)
  rw [hX] at h2
  have e3 : 4096 ^ (2 * q + 1) = 256 ^ (3 * q) * 4096 := by rw [Nat.pow_succ, h256]
  rw [if_neg hev, h2, show c = 2 * q + 1 by omega, e3, ← Nat.div_div_eq_div_mul, hp.2, Nat.pow_one]
theorem block12 (f : Nat → Nat) (hf : ∀ t i, itF f t i < 18446744073709551616) (t : Nat) : (List.range 112).map (fun c => cdN (smF f 168) (112 * t + c)) = dg12 (laN (itF f t) 21) 112 := by
 rw [dg12_eq]
 exact List.map_congr_left fun c hc => cd_digit f hf t c (List.mem_range.1 hc)
theorem unA_filter (S : Nat → UInt8) : ∀ c, unA S c = (((List.range c).map (cdN S)).filter (· < 3329)).take 256
 | 0 => by simp [unA]
 | c + 1 => by
  have ih := unA_filter S c
  rw [List.range_succ, List.map_append, List.map_singleton, List.filter_append]
  by_cases h : cdN S c < 3329
  ·by_cases hl : (unA S c).length < 256
   ·rw [unA_take h hl, ih]
    rw [ih] at hl
    have hl2 : (((List.range c).map (cdN S)).filter (· < 3329)).length < 256 := by rw [List.length_take] at hl; omega
    rw [List.take_of_length_le (by omega), List.take_of_length_le (by simp [h]; omega)]
    simp [h]
   ·rw [unA_pass (by omega), ih]
    rw [ih, List.length_take] at hl
    rw [List.take_append_of_le_length (by omega)]
  ·rw [unA_pass (by omega), ih]
   simp [h]
def bl12 (f : Nat → Nat) : Nat → List Nat
 | 0 => []
 | t + 1 => bl12 f t ++ dg12 (laN (itF f t) 21) 112
theorem bl12_eq (f : Nat → Nat) (hf : ∀ t i, itF f t i < 18446744073709551616) : ∀ t, (List.range (112 * t)).map (cdN (smF f 168)) = bl12 f t
 | 0 => rfl
 | t + 1 => by
  rw [bl12, ← bl12_eq f hf t, ← block12 f hf t, Nat.mul_add, Nat.mul_one, List.range_add, List.map_append, List.map_map]
  rfl
theorem un_eval (f : Nat → Nat) (hf : ∀ t i, itF f t i < 18446744073709551616) (t : Nat) (ht : t ≤ 24) (L : List Nat) (hL : ((bl12 f t).filter (· < 3329)).take 256 = L) (hl : L.length = 256) (k : Nat) : (unF (smF f 168) k).val = L.getD k 0 := by
 have h1 : unA (smF f 168) (112 * t) = L := by rw [unA_filter, bl12_eq f hf, hL]
 have h2 := unA_full (S := smF f 168) (c := 112 * t) (by rw [h1]; exact hl) (2688 - 112 * t)
 rw [show 112 * t + (2688 - 112 * t) = 2688 by omega, h1] at h2
 unfold unF
 rw [h2, nz_val]
 exact Nat.mod_eq_of_lt (getD_lt (fun x hx => by rw [← h1] at hx; exact unA_lt _ _ x hx) k)
def ns4 (x : Nat) : Nat := (3329 + (x % 2 + x / 2 % 2) - (x / 4 % 2 + x / 8 % 2)) % 3329
def dg4 (B : Nat) : Nat → List Nat
 | 0 => []
 | n + 1 => frc B fun b => ns4 (b % 16) :: dg4 (b / 16) n
theorem dg4_eq (B : Nat) : ∀ n, dg4 B n = (List.range n).map fun c => ns4 (B / 16 ^ c % 16)
 | 0 => rfl
 | n + 1 => by
  rw [dg4, frc_eq, dg4_eq (B / 16) n, List.range_succ_eq_map, List.map_cons, List.map_map]
  congr 1
  ·rw [Nat.pow_zero, Nat.div_one]
  ·refine List.map_congr_left fun c _ => ?_
   simp only [Function.comp]
   rw [Nat.pow_succ, Nat.mul_comm, Nat.div_div_eq_div_mul]
theorem ns_eval (f : Nat → Nat) (hf : ∀ i, f i < 18446744073709551616) : (List.range 256).map (fun k => (nsF 2 (otL f 136 128) k).val) = dg4 (laN f 16) 256 := by
 rw [dg4_eq]
 refine List.map_congr_left fun k hk => ?_
 have hk := List.mem_range.1 hk
 have hbit : ∀ m, m < 1024 → btY (otL f 136 128) m = laN f 16 / 2 ^ m % 2 := fun m hm => by
  unfold btY
  have e : (otL f 136 128).getD (m / 8) 0 = byF f (m / 8) := by
   have h8 : m / 8 < 128 := by omega
   unfold otL
   rw [List.getD_eq_getElem?_getD, List.getElem?_map, List.getElem?_range h8]
   simp only [Option.map_some, Option.getD_some, smF]
   rw [show m / 8 / 136 = 0 by omega, show m / 8 % 136 = m / 8 by omega]
   rfl
  rw [e, ← la_byte f hf 16 (m / 8) (by omega)]
  have hp : 2 ^ m = 256 ^ (m / 8) * 2 ^ (m % 8) := by
   rw [show (256 : Nat) = 2 ^ 8 from rfl, ← Nat.pow_mul, ← Nat.pow_add, Nat.div_add_mod]
  rw [hp, ← Nat.div_div_eq_div_mul]
  generalize laN f 16 / 256 ^ (m / 8) = X
  have hr : m % 8 < 8 := Nat.mod_lt _ (by decide)
  have : 2 ^ (m % 8) * 2 ^ (8 - m % 8) = 256 := by rw [← Nat.pow_add, show m % 8 + (8 - m % 8) = 8 by omega]
  have h2 : 2 ∣ 2 ^ (8 - m % 8) := ⟨2 ^ (7 - m % 8), by rw [← Nat.pow_succ', show (7 - m % 8).succ = 8 - m % 8 by omega]⟩
  rw [← this, Nat.mod_mul_right_div_self, Nat.mod_mod_of_dvd _ h2]
 have hX : ∀ j, laN f 16 / 2 ^ (4 * k + j) = laN f 16 / 16 ^ k / 2 ^ j := fun j => by
  rw [Nat.pow_add, Nat.pow_mul, Nat.div_div_eq_div_mul]
 have b0 := hbit (4 * k + 0) (by omega)
 have b1 := hbit (4 * k + 1) (by omega)
 have b2 := hbit (4 * k + 2) (by omega)
 have b3 := hbit (4 * k + 3) (by omega)
 rw [hX] at b0 b1 b2 b3
 show (nz (nsN 2 (otL f 136 128) k)).val = _
 rw [nz_val]
 unfold nsN ns4
 have c1 : cn (otL f 136 128) (2 * k * 2) 2 = btY (otL f 136 128) (4 * k + 0) + btY (otL f 136 128) (4 * k + 1) := by
  show (0 + btY _ (2 * k * 2 + 0)) + btY _ (2 * k * 2 + 1) = _
  rw [show 2 * k * 2 = 4 * k by omega, Nat.zero_add]
 have c2 : cn (otL f 136 128) (2 * k * 2 + 2) 2 = btY (otL f 136 128) (4 * k + 2) + btY (otL f 136 128) (4 * k + 3) := by
  show (0 + btY _ (2 * k * 2 + 2 + 0)) + btY _ (2 * k * 2 + 2 + 1) = _
  rw [show 2 * k * 2 = 4 * k by omega, Nat.zero_add]
 rw [c1, c2, b0, b1, b2, b3]
 generalize laN f 16 / 16 ^ k = X
 congr 1
 omega
def vals (g : Nat → FZ) (n : Nat) : List Nat := (List.range n).map fun t => (g t).val
theorem vals_congr {f g : Nat → FZ} {n : Nat} (h : ∀ t, t < n → f t = g t) : vals f n = vals g n := List.map_congr_left fun t ht => by rw [h t (List.mem_range.1 ht)]
theorem vals_length (g : Nat → FZ) (n : Nat) : (vals g n).length = n := by simp [vals]
theorem vals_add (g : Nat → FZ) (n m : Nat) : vals g (n + m) = vals g n ++ vals (fun t => g (n + t)) m := by
 unfold vals
 rw [List.range_add, List.map_append, List.map_map]
 rfl
theorem vals_get (g : Nat → FZ) (n k : Nat) (h : k < n) : (vals g n).getD k 0 = (g k).val := by
 unfold vals
 rw [List.getD_eq_getElem?_getD, List.getElem?_map, List.getElem?_range h]
 rfl
theorem vals_inj {f g : Nat → FZ} {n : Nat} (h : vals f n = vals g n) (k : Nat) (hk : k < n) : f k = g k := by
 refine Fin.ext ?_
 rw [← vals_get f n k hk, ← vals_get g n k hk, h]
theorem vals_zip (f g : Nat → FZ) (op : Nat → Nat → Nat) (h : Nat → FZ) (n : Nat) (e : ∀ t, t < n → op (f t).val (g t).val = (h t).val) : List.zipWith op (vals f n) (vals g n) = vals h n := by
 refine List.ext_getElem (by simp [vals]) fun k h1 h2 => ?_
 have hk : k < n := by simpa [vals] using h2
 simp only [List.getElem_zipWith, vals, List.getElem_map, List.getElem_range]
 exact e k hk
def addM (x y : Nat) : Nat := (x + y) % 3329
def subM (x y : Nat) : Nat := (x + 3329 - y) % 3329
theorem addM_eq (x y : FZ) : addM x.val y.val = (x + y).val := (Fin.val_add x y).symm
theorem subM_eq (x y : FZ) : subM x.val y.val = (x - y).val := (fz_val_sub x y).symm
def zts : List Nat := [1, 1729, 2580, 3289, 2642, 630, 1897, 848, 1062, 1919, 193, 797, 2786, 3260, 569, 1746, 296, 2447, 1339, 1476, 3046, 56, 2240, 1333, 1426, 2094, 535, 2882, 2393, 2879, 1974, 821, 289, 331, 3253, 1756, 1197, 2304, 2277, 2055, 650, 1977, 2513, 632, 2865, 33, 1320, 1915, 2319, 1435, 807, 452, 1438, 2868, 1534, 2402, 2647, 2617, 1481, 648, 2474, 3110, 1227, 910, 17, 2761, 583, 2649, 1637, 723, 2288, 1100, 1409, 2662, 3281, 233, 756, 2156, 3015, 3050, 1703, 1651, 2789, 1789, 1847, 952, 1461, 2687, 939, 2308, 2437, 2388, 733, 2337, 268, 641, 1584, 2298, 2037, 3220, 375, 2549, 2090, 1645, 1063, 319, 2773, 757, 2099, 561, 2466, 2594, 2804, 1092, 403, 1026, 1143, 2150, 2775, 886, 1722, 1212, 1874, 1029, 2110, 2935, 885, 2154]
theorem zts_eq : ∀ k : Fin 128, zts.getD k.val 0 = (zt k.val).val := by decide +kernel
def nttR : Nat → Nat → List Nat → List Nat
 | 0, _, l => l
 | d + 1, k, l => frc (zts.getD k 0) fun z => frcL ((l.drop (2 ^ (d + 1))).map fun x => z * x % 3329) fun hi =>
   frcL (List.zipWith addM (l.take (2 ^ (d + 1))) hi) fun a => frcL (List.zipWith subM (l.take (2 ^ (d + 1))) hi) fun b => nttR d (2 * k) a ++ nttR d (2 * k + 1) b
theorem nttR_eq (f : Nat → FZ) : ∀ (d l b : Nat), l + d = 7 → b < 2 ^ l → nttR d (2 ^ l + b) (vals (lw f l b) (2 ^ (d + 1))) = vals (fun j => fwd f (2 ^ (d + 1) * b + j)) (2 ^ (d + 1))
 | 0, l, b, hl, hb => by
  have hl7 : l = 7 := by omega
  subst hl7
  show vals (lw f 7 b) 2 = vals (fun j => fwd f (2 * b + j)) 2
  exact vals_congr fun t ht => (fwd_lw f b t hb ht).symm
 | d + 1, l, b, hl, hb => by
  have hl6 : l < 7 := by omega
  have hk : 2 ^ l + b < 128 := by
   have : 2 ^ l * 2 ≤ 2 ^ 7 := by rw [← Nat.pow_succ]; exact Nat.pow_le_pow_right (by decide) (by omega)
   omega
  have hz := zts_eq ⟨2 ^ l + b, hk⟩
  simp only at hz
  have hd : 7 - l = d + 1 := by omega
  rw [nttR]
  simp only [frc_eq, frcL_eq]
  rw [hz, show 2 ^ (d + 1 + 1) = 2 ^ (d + 1) + 2 ^ (d + 1) by rw [Nat.pow_succ 2 (d + 1), Nat.mul_two], vals_add, List.take_left' (vals_length _ _), List.drop_left' (vals_length _ _)]
  have e1 : (vals (fun t => lw f l b (2 ^ (d + 1) + t)) (2 ^ (d + 1))).map (fun x => (zt (2 ^ l + b)).val * x % 3329) = vals (fun t => zt (2 ^ l + b) * lw f l b (2 ^ (d + 1) + t)) (2 ^ (d + 1)) := by
   unfold vals
   rw [List.map_map]
   refine List.map_congr_left fun t _ => ?_
   exact (Fin.val_mul _ _).symm
  have e2 := vals_zip (lw f l b) (fun t => zt (2 ^ l + b) * lw f l b (2 ^ (d + 1) + t)) addM (lw f (l + 1) (2 * b)) (2 ^ (d + 1)) (fun t _ => by rw [addM_eq, lw_even f l b t hl6 hb, hd, Nat.add_comm t])
  have e3 := vals_zip (lw f l b) (fun t => zt (2 ^ l + b) * lw f l b (2 ^ (d + 1) + t)) subM (lw f (l + 1) (2 * b + 1)) (2 ^ (d + 1)) (fun t _ => by rw [subM_eq, lw_odd f l b t hl6 hb, hd, Nat.add_comm t])
  have hp : 2 ^ (l + 1) = 2 * 2 ^ l := by rw [Nat.pow_succ, Nat.mul_comm]
  have i1 := nttR_eq f d (l + 1) (2 * b) (by omega) (by omega)
  have i2 := nttR_eq f d (l + 1) (2 * b + 1) (by omega) (by omega)
  rw [e1, e2, e3, show 2 * (2 ^ l + b) = 2 ^ (l + 1) + 2 * b by omega, i1, show 2 ^ (l + 1) + 2 * b + 1 = 2 ^ (l + 1) + (2 * b + 1) by omega, i2, vals_add]
  have v1 : vals (fun j => fwd f (2 ^ (d + 1) * (2 * b) + j)) (2 ^ (d + 1)) = vals (fun j => fwd f ((2 ^ (d + 1) + 2 ^ (d + 1)) * b + j)) (2 ^ (d + 1)) := vals_congr fun j _ => by
   rw [show 2 ^ (d + 1) * (2 * b) = (2 ^ (d + 1) + 2 ^ (d + 1)) * b by rw [← Nat.mul_assoc, Nat.mul_two]]
  have v2 : vals (fun j => fwd f (2 ^ (d + 1) * (2 * b + 1) + j)) (2 ^ (d + 1)) = vals (fun j => fwd f ((2 ^ (d + 1) + 2 ^ (d + 1)) * b + (2 ^ (d + 1) + j))) (2 ^ (d + 1)) := vals_congr fun j _ => by
   rw [show 2 ^ (d + 1) * (2 * b + 1) + j = (2 ^ (d + 1) + 2 ^ (d + 1)) * b + (2 ^ (d + 1) + j) by rw [Nat.mul_add, Nat.mul_one, ← Nat.mul_assoc, Nat.mul_two, Nat.add_assoc]]
  rw [v1, v2]
theorem ntt_eval (f : Nat → FZ) : nttR 7 1 (vals f 256) = vals (fwd f) 256 := by
 have h := nttR_eq f 7 0 0 rfl (by decide)
 have e : vals (lw f 0 0) (2 ^ (7 + 1)) = vals f 256 := vals_congr fun t _ => lw_first f 0 t
 rw [e] at h
 show nttR 7 (2 ^ 0 + 0) (vals f 256) = _
 rw [h]
 exact vals_congr fun j _ => by show fwd f (2 ^ (7 + 1) * 0 + j) = _; rw [Nat.mul_zero, Nat.zero_add]
theorem inw_eval (g h : Nat → FZ) (e : nttR 7 1 (vals h 256) = vals g 256) : vals (inw g) 256 = vals h 256 := by
 rw [ntt_eval] at e
 refine vals_congr fun p hp => ?_
 rw [inw_congr g (fwd h) (fun q hq => (vals_inj e q hq).symm)]
 exact inw_fwd h p hp
def zrs : List Nat := [17, 3312, 2761, 568, 583, 2746, 2649, 680, 1637, 1692, 723, 2606, 2288, 1041, 1100, 2229, 1409, 1920, 2662, 667, 3281, 48, 233, 3096, 756, 2573, 2156, 1173, 3015, 314, 3050, 279, 1703, 1626, 1651, 1678, 2789, 540, 1789, 1540, 1847, 1482, 952, 2377, 1461, 1868, 2687, 642, 939, 2390, 2308, 1021, 2437, 892, 2388, 941, 733, 2596, 2337, 992, 268, 3061, 641, 2688, 1584, 1745, 2298, 1031, 2037, 1292, 3220, 109, 375, 2954, 2549, 780, 2090, 1239, 1645, 1684, 1063, 2266, 319, 3010, 2773, 556, 757, 2572, 2099, 1230, 561, 2768, 2466, 863, 2594, 735, 2804, 525, 1092, 2237, 403, 2926, 1026, 2303, 1143, 2186, 2150, 1179, 2775, 554, 886, 2443, 1722, 1607, 1212, 2117, 1874, 1455, 1029, 2300, 2110, 1219, 2935, 394, 885, 2444, 2154, 1175]
theorem zrs_eq : ∀ k : Fin 128, zrs.getD k.val 0 = (zr k.val).val := by decide +kernel
def tmL : List Nat → List Nat → List Nat → List Nat
 | a0 :: a1 :: l, b0 :: b1 :: m, z :: zs => (a0 * b0 + a1 * b1 % 3329 * z) % 3329 :: (a0 * b1 + a1 * b0) % 3329 :: tmL l m zs
 | _, _, _ => []
theorem vals_two (f : Nat → FZ) (n : Nat) : vals f (2 * (n + 1)) = (f 0).val :: (f 1).val :: vals (fun t => f (t + 2)) (2 * n) := by
 rw [show 2 * (n + 1) = 2 + 2 * n by omega, vals_add]
 show (f 0).val :: (f 1).val :: vals (fun t => f (2 + t)) (2 * n) = _
 rw [vals_congr (f := fun t => f (2 + t)) (g := fun t => f (t + 2)) fun t _ => by rw [Nat.add_comm]]
theorem tm_vals (z : Nat → FZ) : ∀ (n : Nat) (a b : Nat → FZ) (i : Nat), tmL (vals a (2 * n)) (vals b (2 * n)) (vals (fun t => z (i + t)) n) =
  vals (fun p => if p % 2 = 0 then a p * b p + a (p + 1) * b (p + 1) * z (i + p / 2) else a (p - 1) * b p + a p * b (p - 1)) (2 * n)
 | 0, a, b, i => rfl
 | n + 1, a, b, i => by
  have ih := tm_vals z n (fun t => a (t + 2)) (fun t => b (t + 2)) (i + 1)
  rw [vals_two a n, vals_two b n, vals_two, show n + 1 = 1 + n by omega, vals_add]
  show (_ :: _ :: tmL (vals (fun t => a (t + 2)) (2 * n)) (vals (fun t => b (t + 2)) (2 * n)) (vals (fun t => z (i + (1 + t))) n)) = _
  rw [vals_congr (f := fun t => z (i + (1 + t))) (g := fun t => z (i + 1 + t)) fun t _ => by rw [Nat.add_assoc], ih]
  congr 1
  ·show ((a 0).val * (b 0).val + (a 1).val * (b 1).val % 3329 * (z (i + 0)).val) % 3329 = (a 0 * b 0 + a 1 * b 1 * z (i + 0)).val
   rw [Fin.val_add, Fin.val_mul, Fin.val_mul, Fin.val_mul]
   omega
  ·congr 1
   ·show ((a 0).val * (b 1).val + (a 1).val * (b 0).val) % 3329 = (a 0 * b 1 + a 1 * b 0).val
    rw [Fin.val_add, Fin.val_mul, Fin.val_mul]
    omega
   ·refine vals_congr fun p _ => ?_
    by_cases hp : p % 2 = 0
    ·rw [if_pos hp, if_pos (by omega), show (p + 2) / 2 = p / 2 + 1 by omega, show i + (p / 2 + 1) = i + 1 + p / 2 by omega, show p + 2 + 1 = p + 1 + 2 by omega]
    ·rw [if_neg hp, if_neg (by omega), show p - 1 + 2 = p + 2 - 1 by omega]
theorem tm_eval (a b : Nat → FZ) : tmL (vals a 256) (vals b 256) zrs = vals (tm a b) 256 := by
 have h := tm_vals zr 128 a b 0
 have e : vals (fun t => zr (0 + t)) 128 = zrs := by
  refine List.ext_getElem (by rw [vals_length]; rfl) fun k h1 h2 => ?_
  have hk : k < 128 := by simpa [vals] using h1
  have := zrs_eq ⟨k, hk⟩
  simp only at this
  simp only [vals, List.getElem_map, List.getElem_range, Nat.zero_add]
  rw [← this]
  simp [h2]
 rw [e] at h
 rw [h]
 refine vals_congr fun p _ => ?_
 unfold tm
 rw [Nat.zero_add]
theorem lnL_wv (f : Nat → Nat) (L : List Nat) (h : lnL f = L) (n : Nat) (hn : n ≤ 25) : laN f n = wv (L.take n) := by
 unfold laN
 rw [← h, lnL, ← List.map_take, List.take_range, Nat.min_eq_left hn]
theorem rds_of (f : Nat → Nat) (hf : ∀ i, f i < 18446744073709551616) (L M : List Nat) (hL : lnL f = L) (h : kPm kst L id = M) : lnL (rdsF f 24) = M := by
 rw [← hL, kPm_eq f hf] at h
 exact h
theorem ab_of (g : Nat → Nat) (hg : ∀ i, g i < 18446744073709551616) (t : List UInt8) (ht : t.length ≤ 6) (s : UInt8) (m : Nat) (hm1 : 1 ≤ m) (hm : m ≤ 20) (R : Int) (hR : R = ((8 * m + 40 : Nat) : Int)) (x : Nat) (hx : leN (t ++ [s]) = x) (hx64 : x < 18446744073709551616)
  (L M : List Nat) (hL : lnL (blk5 g x (m + 4)) = L) (h : kPm kst L id = M) : lnL (abF R s (bsP g 32 ++ t)) = M := by
 rw [← rds_of _ (blk5_lt g hg x (m + 4) hx64) L M hL h]
 exact lnL_congr fun k hk => by rw [ab_seed g hg t ht s m hm1 hm R hR k hk, hx]
theorem slF_eval (g : Nat → Nat) (hg : ∀ i, g i < 18446744073709551616) (n : Nat) (hn : n < 256) (L M P : List Nat) (hL : lnL (blk5 g (n + 7936) 16) = L) (h : kPm kst L id = M) (hP : dg4 (wv (M.take 16)) 256 = P) : vals (slF (bsP g 32) n) 256 = P := by
 have h1 := ab_of g hg [UInt8.ofNat n] (by simp) 31 12 (by decide) (by decide) 136 rfl (n + 7936) (by simp only [List.cons_append, List.nil_append, leN, UInt8.toNat_ofNat']; show n % 256 + 256 * (31 + 256 * 0) = _; omega) (by omega) L M hL h
 have h2 := ns_eval (abF 136 31 (bsP g 32 ++ [UInt8.ofNat n])) (abF_lt 136 31 _)
 rw [lnL_wv _ M h1 16 (by decide), hP] at h2
 exact h2
theorem enF_eval3 (g : Nat → Nat) (hg : ∀ i, g i < 18446744073709551616) (i j : Nat) (hi : i < 256) (hj : j < 256) (L M1 M2 M3 P : List Nat) (hL : lnL (blk5 g (j + 256 * i + 2031616) 20) = L) (h1 : kPm kst L id = M1) (h2 : kPm kst M1 id = M2) (h3 : kPm kst M2 id = M3)
  (hP : ((dg12 (wv (M1.take 21)) 112 ++ dg12 (wv (M2.take 21)) 112 ++ dg12 (wv (M3.take 21)) 112).filter (· < 3329)).take 256 = P) (hl : P.length = 256) : vals (enF (bsP g 32) i j) 256 = P := by
 obtain ⟨f, hf⟩ : ∃ f : Nat → Nat, f = abF 168 31 (bsP g 32 ++ [UInt8.ofNat j, UInt8.ofNat i]) := ⟨_, rfl⟩
 have a1 := ab_of g hg [UInt8.ofNat j, UInt8.ofNat i] (by simp) 31 16 (by decide) (by decide) 168 rfl (j + 256 * i + 2031616) (by simp only [List.cons_append, List.nil_append, leN, UInt8.toNat_ofNat']; show j % 256 + 256 * (i % 256 + 256 * (31 + 256 * 0)) = _; omega) (by omega) L M1 hL h1
 have hlt : ∀ k, f k < 18446744073709551616 := fun k => by rw [hf]; exact abF_lt 168 31 _ k
 have hit := itF_lt f hlt
 rw [← hf] at a1
 have a2 : lnL (itF f 1) = M2 := rds_of _ (hit 0) M1 M2 a1 h2
 have a3 : lnL (itF f 2) = M3 := rds_of _ (hit 1) M2 M3 a2 h3
 have hb : bl12 f 3 = dg12 (wv (M1.take 21)) 112 ++ dg12 (wv (M2.take 21)) 112 ++ dg12 (wv (M3.take 21)) 112 := by
  show (([] ++ dg12 (laN (itF f 0) 21) 112) ++ dg12 (laN (itF f 1) 21) 112) ++ dg12 (laN (itF f 2) 21) 112 = _
  rw [List.nil_append, lnL_wv (itF f 0) M1 a1 21 (by decide), lnL_wv _ M2 a2 21 (by decide), lnL_wv _ M3 a3 21 (by decide)]
 have he := un_eval f hit 3 (by decide) P (by rw [hb, hP]) hl
 refine List.ext_getElem (by rw [vals_length, hl]) fun k k1 k2 => ?_
 have := he k
 simp only [vals, List.getElem_map, List.getElem_range]
 unfold enF
 rw [← hf, this]
 simp [k2]
theorem acF3_eval (f : Nat → FZ) (g : Nat → Nat → FZ) (F G0 G1 G2 P : List Nat) (hF : vals f 256 = F) (h0 : vals (g 0) 256 = G0) (h1 : vals (g 1) 256 = G1) (h2 : vals (g 2) 256 = G2) (hP : List.zipWith addM (List.zipWith addM (List.zipWith addM F G0) G1) G2 = P) : vals (acF f g 3) 256 = P := by
 rw [← hP, ← hF, ← h0, ← h1, ← h2, vals_zip f (g 0) addM (acF f g 1) 256 (fun t _ => addM_eq _ _), vals_zip (acF f g 1) (g 1) addM (acF f g 2) 256 (fun t _ => addM_eq _ _), vals_zip (acF f g 2) (g 2) addM (acF f g 3) 256 (fun t _ => addM_eq _ _)]
theorem fwd_of (f : Nat → FZ) (F P : List Nat) (hF : vals f 256 = F) (hP : nttR 7 1 F = P) : vals (fwd f) 256 = P := by
 rw [← hP, ← hF, ntt_eval]
theorem tm_of (a b : Nat → FZ) (A B P : List Nat) (hA : vals a 256 = A) (hB : vals b 256 = B) (hP : tmL A B zrs = P) : vals (tm a b) 256 = P := by
 rw [← hP, ← hA, ← hB, tm_eval]
def ofL (P : List Nat) (k : Nat) : FZ := nz (P.getD k 0)
theorem ofL_vals (P : List Nat) (hl : P.length = 256) (h : ∀ x ∈ P, x < 3329) : vals (ofL P) 256 = P := by
 refine List.ext_getElem (by rw [vals_length, hl]) fun k k1 k2 => ?_
 simp only [vals, List.getElem_map, List.getElem_range, ofL, nz_val]
 have : P.getD k 0 = P[k] := by simp [k2]
 rw [this, Nat.mod_eq_of_lt (h _ (List.getElem_mem k2))]
theorem inw_of (g : Nat → FZ) (G H : List Nat) (hG : vals g 256 = G) (hl : H.length = 256) (hH : ∀ x ∈ H, x < 3329) (h : nttR 7 1 H = G) : vals (inw g) 256 = H := by
 rw [inw_eval g (ofL H) (by rw [ofL_vals H hl hH, h, hG]), ofL_vals H hl hH]
theorem add_of (f g : Nat → FZ) (F G P : List Nat) (hF : vals f 256 = F) (hG : vals g 256 = G) (hP : List.zipWith addM F G = P) : vals (fun k => f k + g k) 256 = P := by
 rw [← hP, ← hF, ← hG, vals_zip f g addM _ 256 (fun t _ => addM_eq _ _)]
theorem sub_of (f g : Nat → FZ) (F G P : List Nat) (hF : vals f 256 = F) (hG : vals g 256 = G) (hP : List.zipWith subM F G = P) : vals (fun k => f k - g k) 256 = P := by
 rw [← hP, ← hF, ← hG, vals_zip f g subM _ 256 (fun t _ => subM_eq _ _)]
theorem pd_of (a b : Nat → FZ) (A B H : List Nat) (hA : vals (fwd a) 256 = A) (hB : vals (fwd b) 256 = B) (hl : H.length = 256) (hH : ∀ x ∈ H, x < 3329) (h : nttR 7 1 H = tmL A B zrs) : vals (pd a b) 256 = H := by
 have h1 := inw_of (tm (fwd a) (fwd b)) (tmL A B zrs) H (tm_of _ _ A B _ hA hB rfl) hl hH h
 exact h1
theorem pt_pk (d i : Nat) (hd : 0 < d) (A B : List UInt8) (F : Nat → Int) (hA : A.length = 32 * d * i) (k : Nat) (hk : k < 256) : ptF d (A ++ pkL d F ++ B) i k = nz (rsZ (F k) % 2 ^ d) := by
 unfold ptF upF
 rw [List.append_assoc, List.drop_left' hA, List.take_left' (pkL_length d F), up_pk d hd F k hk]
theorem fz_rs (f : Nat → FZ) (k : Nat) : rsZ (fzF f k) = (f k).val := by
 unfold fzF
 rw [rsZ_nat, Nat.mod_eq_of_lt (f k).isLt]
theorem nz_12 (f : Nat → FZ) (k : Nat) : nz (rsZ (fzF f k) % 2 ^ 12) = f k := by
 rw [fz_rs, Nat.mod_eq_of_lt (show (f k).val < 2 ^ 12 by have := (f k).isLt; omega)]
 exact nz_self (f k)
theorem dkP_split (s : List UInt8) (i : Nat) : ∀ n, i < n → ∃ B, dkP s n = dkP s i ++ pkL 12 (fzF (rwF s i)) ++ B
 | 0, h => by omega
 | n + 1, h => by
  by_cases e : i = n
  ·subst e
   exact ⟨[], by rw [List.append_nil]; rfl⟩
  ·obtain ⟨B, hB⟩ := dkP_split s i n (by omega)
   exact ⟨B ++ pkL 12 (fzF (rwF s n)), by rw [dkP, hB, List.append_assoc]⟩
theorem ekP_split (rho s : List UInt8) (i : Nat) : ∀ n, i < n → ∃ B, ekP rho s n = ekP rho s i ++ pkL 12 (fzF (tF rho s i)) ++ B
 | 0, h => by omega
 | n + 1, h => by
  by_cases e : i = n
  ·subst e
   exact ⟨[], by rw [List.append_nil]; rfl⟩
  ·obtain ⟨B, hB⟩ := ekP_split rho s i n (by omega)
   exact ⟨B ++ pkL 12 (fzF (tF rho s n)), by rw [ekP, hB, List.append_assoc]⟩
theorem cuP_split (ek r : List UInt8) (i : Nat) : ∀ n, i < n → ∃ B, cuP ek r n = cuP ek r i ++ pkL 10 (sqI 10 (UF ek r i)) ++ B
 | 0, h => by omega
 | n + 1, h => by
  by_cases e : i = n
  ·subst e
   exact ⟨[], by rw [List.append_nil]; rfl⟩
  ·obtain ⟨B, hB⟩ := cuP_split ek r i n (by omega)
   exact ⟨B ++ pkL 10 (sqI 10 (UF ek r n)), by rw [cuP, hB, List.append_assoc]⟩
theorem pt_dk (s : List UInt8) (i : Nat) (hi : i < 3) : vals (ptF 12 (dkP s 3) i) 256 = vals (rwF s i) 256 := by
 obtain ⟨B, hB⟩ := dkP_split s i 3 hi
 refine vals_congr fun k hk => ?_
 rw [hB, pt_pk 12 i (by decide) _ _ _ (by rw [dkP_length]) k hk, nz_12]
theorem pt_ek (rho s : List UInt8) (i : Nat) (hi : i < 3) : vals (ptF 12 (ekP rho s 3 ++ rho) i) 256 = vals (tF rho s i) 256 := by
 obtain ⟨B, hB⟩ := ekP_split rho s i 3 hi
 refine vals_congr fun k hk => ?_
 rw [hB, List.append_assoc, pt_pk 12 i (by decide) _ _ _ (by rw [ekP_length]) k hk, nz_12]
theorem ek_rho (rho s : List UInt8) : (ekP rho s 3 ++ rho).drop 1152 = rho := List.drop_left' (by rw [ekP_length])
def cpN (d x : Nat) : Nat := (2 ^ (d + 1) * x + 3329) / 6658 % 2 ^ d
def dcN (d y : Nat) : Nat := (6658 * y + 2 ^ d) / 2 ^ (d + 1)
theorem sq_val (d : Nat) (h1 : 1 ≤ d) (h11 : d ≤ 11) (f : Nat → FZ) (k : Nat) : sqI d f k = ((cpN d (f k).val : Nat) : Int) := by
 unfold sqI cpA
 rw [if_pos (by omega), Int.toNat_natCast]
 unfold cpZ cpN
 rw [fz_rs]
theorem cpN_lt (d x : Nat) : cpN d x < 2 ^ d := Nat.mod_lt _ (Nat.two_pow_pos d)
theorem sp_val (d : Nat) (h1 : 1 ≤ d) (h11 : d ≤ 11) (f : Nat → FZ) (k : Nat) (h : (f k).val < 2 ^ d) : (spF d f k).val = dcN d (f k).val % 3329 := by
 unfold spF dcA
 rw [if_pos (by omega), Int.toNat_natCast, nz_val]
 unfold dcZ dcN twZ fzF
 have e : (((f k).val : Nat) : Int) % ((2 ^ d : Nat) : Int) = (((f k).val : Nat) : Int) := by
  rw [← Int.natCast_emod, Nat.mod_eq_of_lt h]
 rw [e, Int.toNat_natCast]
theorem spread_of (d i : Nat) (h1 : 1 ≤ d) (h10 : d ≤ 10) (A B : List UInt8) (f : Nat → FZ) (hA : A.length = 32 * d * i) (F P : List Nat) (hF : vals f 256 = F) (hP : F.map (fun x => dcN d (cpN d x) % 3329) = P) : vals (spF d (ptF d (A ++ pkL d (sqI d f) ++ B) i)) 256 = P := by
 rw [← hP, ← hF]
 unfold vals
 rw [List.map_map]
 refine List.map_congr_left fun k hk => ?_
 have hk := List.mem_range.1 hk
 have hc := cpN_lt d (f k).val
 have hp : 2 ^ d ≤ 2 ^ 10 := Nat.pow_le_pow_right (by decide) h10
 have hv : ptF d (A ++ pkL d (sqI d f) ++ B) i k = nz (cpN d (f k).val) := by
  rw [pt_pk d i (by omega) A B _ hA k hk, sq_val d h1 (by omega) f k, rsZ_nat, Nat.mod_eq_of_lt (a := cpN d (f k).val) (by omega), Nat.mod_eq_of_lt hc]
 have hw : (ptF d (A ++ pkL d (sqI d f) ++ B) i k).val = cpN d (f k).val := by
  rw [hv, nz_val, Nat.mod_eq_of_lt (by omega)]
 rw [sp_val d h1 (by omega) _ k (by rw [hw]; exact hc), hw]
 rfl
theorem me_of (rho s ek m r : List UInt8) (U0 U1 U2 V P0 P1 P2 Q0 Q1 Q2 S0 S1 S2 H0 H1 H2 W X : List Nat)
  (hU0 : vals (UF ek r 0) 256 = U0) (hU1 : vals (UF ek r 1) 256 = U1) (hU2 : vals (UF ek r 2) 256 = U2) (hV : vals (VF ek m r) 256 = V)
  (hP0 : U0.map (fun x => dcN 10 (cpN 10 x) % 3329) = P0) (hP1 : U1.map (fun x => dcN 10 (cpN 10 x) % 3329) = P1) (hP2 : U2.map (fun x => dcN 10 (cpN 10 x) % 3329) = P2)
  (hQ0 : nttR 7 1 P0 = Q0) (hQ1 : nttR 7 1 P1 = Q1) (hQ2 : nttR 7 1 P2 = Q2)
  (hS0 : vals (rwF s 0) 256 = S0) (hS1 : vals (rwF s 1) 256 = S1) (hS2 : vals (rwF s 2) 256 = S2)
  (l0 : H0.length = 256) (l1 : H1.length = 256) (l2 : H2.length = 256) (b0 : ∀ x ∈ H0, x < 3329) (b1 : ∀ x ∈ H1, x < 3329) (b2 : ∀ x ∈ H2, x < 3329)
  (hH0 : nttR 7 1 H0 = tmL S0 Q0 zrs) (hH1 : nttR 7 1 H1 = tmL S1 Q1 zrs) (hH2 : nttR 7 1 H2 = tmL S2 Q2 zrs)
  (hW : List.zipWith addM (List.zipWith addM H0 H1) H2 = W)
  (hX : List.zipWith subM (V.map (fun x => dcN 4 (cpN 4 x) % 3329)) W = X) (hm : m.length = 32) (hbit : X.map (cpN 1) = (List.range 256).map (upN 1 m)) : meL (dkP s 3) (ciL ek m r) = m := by
 have hs : ∀ i, i < 3 → ∀ S, vals (rwF s i) 256 = S → vals (fwd (inw (ptF 12 (dkP s 3) i))) 256 = S := fun i hi S hS => by
  rw [← hS, ← pt_dk s i hi]
  exact vals_congr fun p hp => fwd_inw _ p hp
 have hu : ∀ i, i < 3 → ∀ U P, vals (UF ek r i) 256 = U → U.map (fun x => dcN 10 (cpN 10 x) % 3329) = P → vals (spF 10 (ptF 10 (ciL ek m r) i)) 256 = P := fun i hi U P hU hP => by
  obtain ⟨B, hB⟩ := cuP_split ek r i 3 hi
  unfold ciL
  rw [hB, List.append_assoc]
  exact spread_of 10 i (by decide) (by decide) _ _ _ (by rw [cuP_length]) U P hU hP
 have hp : ∀ i, i < 3 → ∀ S Q U P H, vals (rwF s i) 256 = S → vals (UF ek r i) 256 = U → U.map (fun x => dcN 10 (cpN 10 x) % 3329) = P → nttR 7 1 P = Q → H.length = 256 → (∀ x ∈ H, x < 3329) → nttR 7 1 H = tmL S Q zrs →
   vals (pd (inw (ptF 12 (dkP s 3) i)) (spF 10 (ptF 10 (ciL ek m r) i))) 256 = H := fun i hi S Q U P H a1 a2 a3 a4 a5 a6 a7 =>
  pd_of _ _ S Q H (hs i hi S a1) (fwd_of _ P Q (hu i hi U P a2 a3) a4) a5 a6 a7
 have hw : vals (wF (dkP s 3) (ciL ek m r)) 256 = W := by
  have hz : vals (fun _ : Nat => (0 : FZ)) 256 = List.replicate 256 0 := by decide +kernel
  have h00 : ∀ (L : List Nat) (n : Nat), L.length = n → (∀ x ∈ L, x < 3329) → List.zipWith addM (List.replicate n 0) L = L := by
   intro L
   induction L with
   | nil =>
    intro n hn _
    simp at hn ⊢
   | cons x L ih =>
    intro n hn hb
    cases n with
    | zero => simp at hn
    | succ n =>
     rw [List.replicate_succ, List.zipWith_cons_cons, ih n (by simpa using hn) (fun y hy => hb y (List.mem_cons_of_mem _ hy))]
     have := hb x (List.mem_cons_self ..)
     unfold addM
     rw [Nat.zero_add, Nat.mod_eq_of_lt this]
  exact acF3_eval _ _ _ H0 H1 H2 W hz (hp 0 (by decide) S0 Q0 U0 P0 H0 hS0 hU0 hP0 hQ0 l0 b0 hH0) (hp 1 (by decide) S1 Q1 U1 P1 H1 hS1 hU1 hP1 hQ1 l1 b1 hH1) (hp 2 (by decide) S2 Q2 U2 P2 H2 hS2 hU2 hP2 hQ2 l2 b2 hH2) (by rw [h00 H0 256 l0 b0]; exact hW)
 have hv : vals (spF 4 (upF 4 ((ciL ek m r).drop 960))) 256 = V.map (fun x => dcN 4 (cpN 4 x) % 3329) := by
  have h1 := spread_of 4 0 (by decide) (by decide) [] [] (VF ek m r) rfl V _ hV rfl
  have e : ptF 4 ([] ++ pkL 4 (sqI 4 (VF ek m r)) ++ []) 0 = upF 4 ((ciL ek m r).drop 960) := by
   unfold ptF ciL
   rw [List.nil_append, List.append_nil, Nat.mul_zero, List.drop_zero, List.take_of_length_le (by rw [pkL_length]; decide), List.drop_left' (by rw [cuP_length])]
  rw [e] at h1
  exact h1
 have hx := sub_of _ _ _ _ X hv hw hX
 unfold meL
 refine pk_up 1 (by decide) m (by rw [hm]) _ fun k hk => ?_
 have hxk : (X.map (cpN 1)).getD k 0 = upN 1 m k := by
  rw [hbit, List.getD_eq_getElem?_getD, List.getElem?_map, List.getElem?_range hk]
  rfl
 have hc := cpN_lt 1 (spF 4 (upF 4 ((ciL ek m r).drop 960)) k - wF (dkP s 3) (ciL ek m r) k).val
 rw [sq_val 1 (by decide) (by decide), rsZ_nat, Nat.mod_eq_of_lt (by omega), ← hxk, ← hx]
 unfold vals
 rw [List.map_map, List.getD_eq_getElem?_getD, List.getElem?_map, List.getElem?_range hk]
 rfl
def lnF (G : List Nat) (k : Nat) : Nat := G.getD k 0
theorem lnF_lt (G : List Nat) (h : ∀ x ∈ G, x < 18446744073709551616) (k : Nat) : lnF G k < 18446744073709551616 := by
 unfold lnF
 rcases Nat.lt_or_ge k G.length with hk | hk
 ·simp only [List.getD_eq_getElem?_getD, List.getElem?_eq_getElem hk, Option.getD_some]
  exact h _ (List.getElem_mem hk)
 ·simp [List.getElem?_eq_none hk]
theorem bsP_congr {f g : Nat → Nat} (n : Nat) (h : ∀ i, i < n → f i = g i) : bsP f (8 * n) = bsP g (8 * n) := by
 unfold bsP
 refine List.map_congr_left fun k hk => ?_
 have := List.mem_range.1 hk
 unfold byF
 rw [h (k / 8) (by omega)]
theorem bsP_drop (f : Nat → Nat) : (bsP f 64).drop 32 = bsP (fun i => f (i + 4)) 32 := by
 refine List.ext_getElem (by simp [bsP]) fun k h1 h2 => ?_
 have hk : k < 32 := by simpa [bsP] using h2
 simp only [List.getElem_drop, bsP, List.getElem_map, List.getElem_range, byF]
 rw [show (32 + k) / 8 = k / 8 + 4 by omega, show (32 + k) % 8 = k % 8 by omega]
theorem bsP_take13 (f : Nat → Nat) : (bsP f 64).take 32 = bsP f 32 := by
 unfold bsP
 rw [← List.map_take, List.take_range]
 rfl
theorem gnS_of (dl : Nat → Nat) (hd : ∀ i, dl i < 18446744073709551616) (L G : List Nat) (hL : lnL (blk5 dl 1539 8) = L) (hG : kPm kst L id = G) : (gnS (bsP dl 32)).take 32 = bsP (lnF G) 32 ∧ (gnS (bsP dl 32)).drop 32 = bsP (lnF (G.drop 4)) 32 := by
 have h1 := ab_of dl hd [3] (by simp) 6 4 (by decide) (by decide) 72 rfl 1539 (by decide) (by decide) L G hL hG
 have hl : ∀ i, i < 25 → abF 72 6 (bsP dl 32 ++ [3]) i = lnF G i := fun i hi => by
  rw [← h1]
  unfold lnF lnL
  rw [List.getD_eq_getElem?_getD, List.getElem?_map, List.getElem?_range hi]
  rfl
 have e : gnS (bsP dl 32) = bsP (lnF G) 64 := by
  have e1 : gnS (bsP dl 32) = bsP (abF 72 6 (bsP dl 32 ++ [3])) 64 := by
   unfold gnS otL bsP
   refine List.map_congr_left fun k hk => ?_
   have := List.mem_range.1 hk
   unfold smF
   rw [show k / 72 = 0 by omega, show k % 72 = k by omega]
   rfl
  rw [e1]
  exact bsP_congr 8 fun i hi => hl i (by omega)
 rw [e, bsP_take13, bsP_drop]
 refine ⟨rfl, ?_⟩
 exact bsP_congr 4 fun i _ => by
  unfold lnF
  rw [List.getD_eq_getElem?_getD, List.getD_eq_getElem?_getD, List.getElem?_drop, Nat.add_comm]
theorem tF_of (rho s : List UInt8) (i : Nat) (E A0 A1 A2 S0 S1 S2 B0 B1 B2 T : List Nat) (hE : vals (fwd (slF s (3 + i))) 256 = E) (hA0 : vals (enF rho i 0) 256 = A0) (hA1 : vals (enF rho i 1) 256 = A1) (hA2 : vals (enF rho i 2) 256 = A2)
  (hS0 : vals (rwF s 0) 256 = S0) (hS1 : vals (rwF s 1) 256 = S1) (hS2 : vals (rwF s 2) 256 = S2) (hB0 : tmL A0 S0 zrs = B0) (hB1 : tmL A1 S1 zrs = B1) (hB2 : tmL A2 S2 zrs = B2) (hT : List.zipWith addM (List.zipWith addM (List.zipWith addM E B0) B1) B2 = T) : vals (tF rho s i) 256 = T :=
 acF3_eval _ _ E B0 B1 B2 T hE (tm_of _ _ A0 S0 B0 hA0 hS0 hB0) (tm_of _ _ A1 S1 B1 hA1 hS1 hB1) (tm_of _ _ A2 S2 B2 hA2 hS2 hB2) hT
theorem zero_vals : vals (fun _ : Nat => (0 : FZ)) 256 = List.replicate 256 0 := by decide +kernel
theorem UF_of (ek rho r : List UInt8) (hek : ek.drop 1152 = rho) (i : Nat) (A0 A1 A2 Y0 Y1 Y2 B0 B1 B2 C H E U : List Nat) (hA0 : vals (enF rho 0 i) 256 = A0) (hA1 : vals (enF rho 1 i) 256 = A1) (hA2 : vals (enF rho 2 i) 256 = A2)
  (hY0 : vals (rwF r 0) 256 = Y0) (hY1 : vals (rwF r 1) 256 = Y1) (hY2 : vals (rwF r 2) 256 = Y2) (hB0 : tmL A0 Y0 zrs = B0) (hB1 : tmL A1 Y1 zrs = B1) (hB2 : tmL A2 Y2 zrs = B2) (hC : List.zipWith addM (List.zipWith addM (List.zipWith addM (List.replicate 256 0) B0) B1) B2 = C)
  (hl : H.length = 256) (hb : ∀ x ∈ H, x < 3329) (hH : nttR 7 1 H = C) (hE : vals (slF r (3 + i)) 256 = E) (hU : List.zipWith addM H E = U) : vals (UF ek r i) 256 = U := by
 subst hek
 have h1 := acF3_eval (fun _ => 0) (fun j => tm (enF (ek.drop 1152) j i) (rwF r j)) _ B0 B1 B2 C zero_vals (tm_of _ _ A0 Y0 B0 hA0 hY0 hB0) (tm_of _ _ A1 Y1 B1 hA1 hY1 hB1) (tm_of _ _ A2 Y2 B2 hA2 hY2 hB2) hC
 exact add_of _ _ H E U (inw_of _ C H h1 hl hb hH) hE hU
theorem VF_of (ek m r : List UInt8) (T0 T1 T2 Y0 Y1 Y2 B0 B1 B2 C H E D M V : List Nat) (hT0 : vals (ptF 12 ek 0) 256 = T0) (hT1 : vals (ptF 12 ek 1) 256 = T1) (hT2 : vals (ptF 12 ek 2) 256 = T2)
  (hY0 : vals (rwF r 0) 256 = Y0) (hY1 : vals (rwF r 1) 256 = Y1) (hY2 : vals (rwF r 2) 256 = Y2) (hB0 : tmL T0 Y0 zrs = B0) (hB1 : tmL T1 Y1 zrs = B1) (hB2 : tmL T2 Y2 zrs = B2) (hC : List.zipWith addM (List.zipWith addM (List.zipWith addM (List.replicate 256 0) B0) B1) B2 = C)
  (hl : H.length = 256) (hb : ∀ x ∈ H, x < 3329) (hH : nttR 7 1 H = C) (hE : vals (slF r 6) 256 = E) (hD : List.zipWith addM H E = D) (hM : (List.range 256).map (fun k => dcN 1 (upN 1 m k) % 3329) = M) (hV : List.zipWith addM D M = V) : vals (VF ek m r) 256 = V := by
 have h1 := acF3_eval (fun _ => 0) (fun j => tm (ptF 12 ek j) (rwF r j)) _ B0 B1 B2 C zero_vals (tm_of _ _ T0 Y0 B0 hT0 hY0 hB0) (tm_of _ _ T1 Y1 B1 hT1 hY1 hB1) (tm_of _ _ T2 Y2 B2 hT2 hY2 hB2) hC
 have h2 := add_of _ _ H E D (inw_of _ C H h1 hl hb hH) hE hD
 refine add_of _ _ D M V h2 ?_ hV
 rw [← hM]
 unfold vals
 refine List.map_congr_left fun k _ => ?_
 have hu := upN_lt 1 m k
 have hv : (upF 1 m k).val = upN 1 m k := by
  unfold upF
  rw [nz_val, Nat.mod_eq_of_lt (by omega)]
 rw [sp_val 1 (by decide) (by decide) _ k (by rw [hv]; exact hu), hv]
end Go.Proofs.YtmhbjaampobcbaaGreatDoor

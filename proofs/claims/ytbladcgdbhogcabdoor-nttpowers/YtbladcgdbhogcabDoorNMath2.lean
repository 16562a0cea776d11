/- The transform by factors: roots, levels, and the sums that they come to: plain mathematics. No program's text is named. -/
import Derived.Test.YtbladcgdbhogcabDoorNMath
namespace Go.Proofs.YtbladcgdbhogcabDoor
set_option linter.unusedSimpArgs false
set_option linter.unusedVariables false

/-- The powers of 17 by bits turned round. -/
def zt (k : Nat) : FZ := pz 17 (tnJ k 7)
/-- The root of block b on a level. -/
def rt : Nat → Nat → FZ
  | 0, _ => -1
  | l + 1, c => if c % 2 = 0 then zt (2 ^ l + c / 2) else - zt (2 ^ l + c / 2)
theorem zt_square : ∀ l : Fin 7, ∀ b : Fin 64, b.val < 2 ^ l.val → zt (2 ^ l.val + b.val) * zt (2 ^ l.val + b.val) = rt l.val b.val := by decide +kernel
/-- The root of the i-th factor. -/
def zr (i : Nat) : FZ := pz 17 (2 * tnJ i 7 + 1)
theorem rt_last : ∀ b : Fin 128, rt 7 b.val = zr b.val := by decide +kernel
theorem rt_even (l b : Nat) : rt (l + 1) (2 * b) = zt (2 ^ l + b) := by
  show (if 2 * b % 2 = 0 then zt (2 ^ l + 2 * b / 2) else _) = _
  rw [if_pos (by omega), show 2 * b / 2 = b by omega]
theorem rt_odd (l b : Nat) : rt (l + 1) (2 * b + 1) = - zt (2 ^ l + b) := by
  show (if (2 * b + 1) % 2 = 0 then _ else - zt (2 ^ l + (2 * b + 1) / 2)) = _
  rw [if_neg (by omega), show (2 * b + 1) / 2 = b by omega]
/-- Place t of block b on level l, of a polynomial: blocks of 2^(8 - l) places. -/
def lw (f : Nat → FZ) (l b t : Nat) : FZ := ev (2 ^ l) (2 ^ (8 - l)) t f (rt l b)
theorem lw_first (f : Nat → FZ) (b t : Nat) : lw f 0 b t = f t := by
  show sm 1 (fun s => f (t + 256 * s) * pz (-1) s) = f t
  rw [sm_succ, sm_zero]
  show 0 + f (t + 256 * 0) * 1 = f t
  rw [Nat.mul_zero, Nat.add_zero]
  grind -lia
theorem lw_last (f : Nat → FZ) (b t : Nat) (hb : b < 128) : lw f 7 b t = ev 128 2 t f (zr b) := by
  show ev 128 2 t f (rt 7 b) = _
  rw [rt_last ⟨b, hb⟩]
theorem lw_even (f : Nat → FZ) (l b t : Nat) (hl : l < 7) (hb : b < 2 ^ l) : lw f (l + 1) (2 * b) t = lw f l b t + zt (2 ^ l + b) * lw f l b (t + 2 ^ (7 - l)) := by
  have h64 : b < 64 := Nat.lt_of_lt_of_le hb (Nat.pow_le_pow_right (by decide) (by omega : l ≤ 6))
  have hs := zt_square ⟨l, hl⟩ ⟨b, h64⟩ hb
  have e1 : 2 ^ (l + 1) = 2 * 2 ^ l := by rw [Nat.pow_succ, Nat.mul_comm]
  have e2 : 2 ^ (8 - l) = 2 * 2 ^ (7 - l) := by rw [show 8 - l = 7 - l + 1 by omega, Nat.pow_succ, Nat.mul_comm]
  have e3 : 8 - (l + 1) = 7 - l := by omega
  unfold lw
  rw [rt_even, e3, e1, e2, ev_plus _ _ _ _ _ _ hs.symm]
theorem lw_odd (f : Nat → FZ) (l b t : Nat) (hl : l < 7) (hb : b < 2 ^ l) : lw f (l + 1) (2 * b + 1) t = lw f l b t - zt (2 ^ l + b) * lw f l b (t + 2 ^ (7 - l)) := by
  have h64 : b < 64 := Nat.lt_of_lt_of_le hb (Nat.pow_le_pow_right (by decide) (by omega : l ≤ 6))
  have hs := zt_square ⟨l, hl⟩ ⟨b, h64⟩ hb
  have e1 : 2 ^ (l + 1) = 2 * 2 ^ l := by rw [Nat.pow_succ, Nat.mul_comm]
  have e2 : 2 ^ (8 - l) = 2 * 2 ^ (7 - l) := by rw [show 8 - l = 7 - l + 1 by omega, Nat.pow_succ, Nat.mul_comm]
  have e3 : 8 - (l + 1) = 7 - l := by omega
  unfold lw
  rw [rt_odd, e3, e1, e2, ev_minus _ _ _ _ _ _ hs.symm]
/-! ### Sums of powers of a root of one -/
theorem fz_mul_zero {a b : FZ} (h : a * b = 0) : a = 0 ∨ b = 0 := by
  have h1 : a.val * b.val % 3329 = 0 := by
    have := congrArg Fin.val h
    rwa [Fin.val_mul] at this
  rcases pr3329.dvd_mul (Nat.dvd_of_mod_eq_zero h1) with h2 | h2
  · left
    apply Fin.ext
    have := a.isLt
    exact Nat.eq_zero_of_dvd_of_lt h2 this
  · right
    apply Fin.ext
    have := b.isLt
    exact Nat.eq_zero_of_dvd_of_lt h2 this
theorem geo (w : FZ) : ∀ n, (w - 1) * sm n (fun j => pz w j) = pz w n - 1
  | 0 => by
    rw [sm_zero]
    show (w - 1) * 0 = 1 - 1
    grind -lia
  | n + 1 => by
    have h := geo w n
    rw [sm_succ, pz_succ]
    generalize sm n (fun j => pz w j) = a at h ⊢
    generalize pz w n = b at h ⊢
    grind -lia
theorem geo_zero (w : FZ) (h1 : pz w 128 = 1) (hw : w ≠ 1) : sm 128 (fun j => pz w j) = 0 := by
  have h := geo w 128
  rw [h1] at h
  have h2 : (w - 1) * sm 128 (fun j => pz w j) = 0 := by
    rw [h]
    rfl
  rcases fz_mul_zero h2 with h3 | h3
  · exfalso
    apply hw
    have : w = (w - 1) + 1 := by grind -lia
    rw [this, h3]
    rfl
  · exact h3
theorem geo_one : sm 128 (fun j => pz 1 j) = 128 := by decide +kernel
/-- The inverse of a factor's root. -/
def zi (i : Nat) : FZ := pz (zr i) 255
theorem zi_one : ∀ i : Fin 128, zr i.val * zi i.val = 1 := by decide +kernel
theorem zr_pow : ∀ i : Fin 128, pz (zr i.val) 128 = -1 := by decide +kernel
theorem zi_pow : ∀ i : Fin 128, pz (zi i.val) 128 = -1 := by decide +kernel
theorem zr_inj : ∀ i : Fin 128, ∀ k : Fin 128, zr i.val = zr k.val → i = k := by decide +kernel
theorem pz_mul (a b : FZ) : ∀ n, pz (a * b) n = pz a n * pz b n
  | 0 => by
    show (1 : FZ) = 1 * 1
    rfl
  | n + 1 => by
    rw [pz_succ, pz_succ, pz_succ, pz_mul a b n]
    grind -lia
/-- Two factors' roots, one over the other: their powers' sum. -/
theorem ortho (i k : Nat) (hi : i < 128) (hk : k < 128) : sm 128 (fun j => pz (zi i) j * pz (zr k) j) = if i = k then 128 else 0 := by
  have e : sm 128 (fun j => pz (zi i) j * pz (zr k) j) = sm 128 (fun j => pz (zi i * zr k) j) := sm_congr 128 fun j _ => (pz_mul _ _ j).symm
  rw [e]
  have h1 := zi_one ⟨i, hi⟩
  by_cases h : i = k
  · rw [if_pos h, ← h, show zi i * zr i = 1 by rw [← h1]; grind -lia]
    exact geo_one
  · rw [if_neg h]
    refine geo_zero _ ?_ fun hc => h ?_
    · rw [pz_mul, zi_pow ⟨i, hi⟩, zr_pow ⟨k, hk⟩]
      decide
    · have h2 : zr k = zr i := by
        have h3 : zr i * (zi i * zr k) = zr i * 1 := by rw [hc]
        have h4 : zr i * (zi i * zr k) = (zr i * zi i) * zr k := by grind -lia
        rw [h4, h1] at h3
        have h5 : (1 : FZ) * zr k = zr k := by grind -lia
        have h6 : zr i * 1 = zr i := by grind -lia
        rw [← h5, h3, h6]
      exact congrArg Fin.val (zr_inj ⟨i, hi⟩ ⟨k, hk⟩ h2.symm)
end Go.Proofs.YtbladcgdbhogcabDoor

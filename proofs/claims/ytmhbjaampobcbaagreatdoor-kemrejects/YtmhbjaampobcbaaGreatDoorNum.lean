/- What the proofs of this seat stand on and that names no program: memory, rows, arrays, regions, and plain mathematics; several texts in one. -/
import Derived.Test.YtmhbjaampobcbaaGreatDoorBase
import Derived.Test.YtmhbjaampobcbaaGreatDoorKec

namespace Go.Proofs.YtmhbjaampobcbaaGreatDoor
set_option linter.unusedSimpArgs false
set_option linter.unusedVariables false

def rsZ (x : Int) : Nat := (x % 3329).toNat
theorem rsZ_lt (x : Int) : rsZ x < 3329 := by unfold rsZ; omega
theorem rsZ_int (x : Int) : ((rsZ x : Nat) : Int) = x % 3329 := by unfold rsZ; omega
theorem rsZ_nat (n : Nat) : rsZ (n : Int) = n % 3329 := by unfold rsZ; omega
def pwZ (a n : Int) : Nat := if n < 0 then 0 else rsZ a ^ n.toNat % 3329
theorem pr3329 : Pr 3329 := pr_trial 3329 (by decide) (by decide +kernel)
theorem pow_one (a e : Nat) (he : e = 3328) (h : a % 3329 ≠ 0) : a ^ e % 3329 = 1 := by
 have h1 := fermat pr3329 a (fun hd => h (Nat.mod_eq_zero_of_dvd hd))
 have h2 : 3329 - 1 = e := by omega
 rw [h2] at h1
 exact h1
theorem pow_rest (a n : Nat) (h : a % 3329 ≠ 0) : a ^ n % 3329 = a ^ (n % 3328) % 3329 := by
 obtain ⟨e, he⟩ : ∃ e : Nat, e = 3328 := ⟨_, rfl⟩
 rw [← he]
 have h1 := pow_one a e he h
 have h2 : n = e * (n / e) + n % e := (Nat.div_add_mod n e).symm
 have h3 : a ^ n = (a ^ e) ^ (n / e) * a ^ (n % e) := by rw [← Nat.pow_mul, ← Nat.pow_add, ← h2]
 rw [h3, Nat.mul_mod, Nat.pow_mod, h1, Nat.one_pow]
 simp
def tnJ (m : Nat) : Nat → Nat
 | 0 => 0
 | j + 1 => tnJ m j * 2 + m / 2 ^ j % 2
theorem tnJ_lt (m : Nat) : ∀ j, tnJ m j < 2 ^ j
 | 0 => by simp [tnJ]
 | j + 1 => by
  have := tnJ_lt m j
  simp only [tnJ, Nat.pow_succ]
  omega
def cpZ (d : Nat) (x : Int) : Nat := (2 ^ (d + 1) * rsZ x + 3329) / 6658 % 2 ^ d
def twZ (d : Nat) (y : Int) : Nat := (y % ((2 ^ d : Nat) : Int)).toNat
def dcZ (d : Nat) (y : Int) : Nat := (6658 * twZ d y + 2 ^ d) / 2 ^ (d + 1)
abbrev FZ := Fin 3329
def nz (x : Nat) : FZ := ⟨x % 3329, Nat.mod_lt _ (by decide)⟩
theorem nz_val (x : Nat) : (nz x).val = x % 3329 := rfl
theorem nz_mul (x y : Nat) : nz (x * y) = nz x * nz y := by
 apply Fin.ext
 rw [Fin.val_mul]
 exact Nat.mul_mod x y _
theorem nz_self (a : FZ) : nz a.val = a := Fin.ext (Nat.mod_eq_of_lt a.isLt)

def sm (n : Nat) (f : Nat → FZ) : FZ := match n with
 | 0 => 0
 | n + 1 => sm n f + f n
theorem sm_zero (f : Nat → FZ) : sm 0 f = 0 := rfl
theorem sm_succ (n : Nat) (f : Nat → FZ) : sm (n + 1) f = sm n f + f n := rfl
theorem sm_congr {f g : Nat → FZ} : ∀ n, (∀ i, i < n → f i = g i) → sm n f = sm n g
 | 0, _ => rfl
 | n + 1, h => by
  unfold sm
  rw [sm_congr n fun i hi => h i (by omega), h n (by omega)]
theorem sm_add (f g : Nat → FZ) : ∀ n, sm n (fun i => f i + g i) = sm n f + sm n g
 | 0 => by unfold sm; rfl
 | n + 1 => by
  unfold sm
  rw [sm_add f g n]
  generalize sm n f = a
  generalize sm n g = b
  generalize f n = c
  generalize g n = d
  grind -lia
theorem sm_mul (c : FZ) (f : Nat → FZ) : ∀ n, sm n (fun i => c * f i) = c * sm n f
 | 0 => by
  unfold sm
  grind -lia
 | n + 1 => by
  unfold sm
  rw [sm_mul c f n]
  generalize sm n f = a
  generalize f n = b
  grind -lia
theorem sm_two (f : Nat → FZ) : ∀ n, sm (2 * n) f = sm n (fun i => f (2 * i)) + sm n (fun i => f (2 * i + 1))
 | 0 => by
  unfold sm
  grind -lia
 | n + 1 => by
  have e : 2 * (n + 1) = 2 * n + 1 + 1 := by omega
  rw [e, sm_succ, sm_succ, sm_succ, sm_succ, sm_two f n]
  generalize sm n (fun i => f (2 * i)) = a
  generalize sm n (fun i => f (2 * i + 1)) = b
  generalize f (2 * n) = c
  generalize f (2 * n + 1) = d
  grind -lia
def pz (r : FZ) : Nat → FZ
 | 0 => 1
 | n + 1 => pz r n * r
theorem pz_succ (r : FZ) (n : Nat) : pz r (n + 1) = pz r n * r := rfl
theorem pz_add (r : FZ) (m : Nat) : ∀ n, pz r (m + n) = pz r m * pz r n
 | 0 => by
  show pz r m = pz r m * 1
  grind -lia
 | n + 1 => by
  rw [← Nat.add_assoc, pz_succ, pz_add r m n, pz_succ]
  grind -lia
theorem pz_two (z : FZ) : ∀ i, pz z (2 * i) = pz (z * z) i
 | 0 => rfl
 | i + 1 => by
  have e : 2 * (i + 1) = 2 * i + 1 + 1 := by omega
  rw [e, pz_succ, pz_succ, pz_succ, pz_two z i]
  grind -lia
theorem pz_nz (x n : Nat) : nz (x ^ n) = pz (nz x) n := by
 induction n with
 | zero => rfl
 | succ n ih => rw [Nat.pow_succ, nz_mul, ih, pz_succ]
def ev (n l o : Nat) (f : Nat → FZ) (r : FZ) : FZ := sm n fun s => f (o + l * s) * pz r s
theorem ev_plus (n l o : Nat) (f : Nat → FZ) (r z : FZ) (h : r = z * z) : ev (2 * n) l o f z = ev n (2 * l) o f r + z * ev n (2 * l) (o + l) f r := by
 unfold ev
 rw [sm_two, ← sm_mul]
 congr 1
 ·refine sm_congr n fun i _ => ?_
  have e1 : o + l * (2 * i) = o + 2 * l * i := by rw [Nat.mul_comm 2 l, Nat.mul_assoc]
  rw [e1, pz_two, h]
 ·refine sm_congr n fun i _ => ?_
  have e1 : o + l * (2 * i + 1) = o + l + 2 * l * i := by rw [Nat.mul_add, Nat.mul_comm 2 l, Nat.mul_assoc, Nat.mul_one]; omega
  rw [e1, pz_succ, pz_two, h]
  generalize f (o + l + 2 * l * i) = a
  generalize pz (z * z) i = b
  grind -lia
theorem ev_minus (n l o : Nat) (f : Nat → FZ) (r z : FZ) (h : r = z * z) : ev (2 * n) l o f (-z) = ev n (2 * l) o f r - z * ev n (2 * l) (o + l) f r := by
 rw [ev_plus n l o f r (-z) (by rw [h]; grind -lia)]
 generalize ev n (2 * l) o f r = a
 generalize ev n (2 * l) (o + l) f r = b
 grind -lia
def zt (k : Nat) : FZ := pz 17 (tnJ k 7)
def rt : Nat → Nat → FZ
 | 0, _ => -1
 | l + 1, c => if c % 2 = 0 then zt (2 ^ l + c / 2) else - zt (2 ^ l + c / 2)
theorem zt_square : ∀ l : Fin 7, ∀ b : Fin 64, b.val < 2 ^ l.val → zt (2 ^ l.val + b.val) * zt (2 ^ l.val + b.val) = rt l.val b.val := by decide +kernel
def zr (i : Nat) : FZ := pz 17 (2 * tnJ i 7 + 1)
theorem rt_last : ∀ b : Fin 128, rt 7 b.val = zr b.val := by decide +kernel
theorem rt_even (l b : Nat) : rt (l + 1) (2 * b) = zt (2 ^ l + b) := by
 show (if 2 * b % 2 = 0 then zt (2 ^ l + 2 * b / 2) else _) = _
 rw [if_pos (by omega), show 2 * b / 2 = b by omega]
theorem rt_odd (l b : Nat) : rt (l + 1) (2 * b + 1) = - zt (2 ^ l + b) := by
 show (if (2 * b + 1) % 2 = 0 then _ else - zt (2 ^ l + (2 * b + 1) / 2)) = _
 rw [if_neg (by omega), show (2 * b + 1) / 2 = b by omega]
def lw (f : Nat → FZ) (l b t : Nat) : FZ := ev (2 ^ l) (2 ^ (8 - l)) t f (rt l b)
theorem lw_first (f : Nat → FZ) (b t : Nat) : lw f 0 b t = f t := by
 show sm 1 (fun s => f (t + 256 * s) * pz (-1) s) = f t
 rw [sm_succ, sm_zero]
 show 0 + f (t + 256 * 0) * 1 = f t
 rw [Nat.mul_zero, Nat.add_zero]
 grind -lia
theorem lw_last (f : Nat → FZ) (b t : Nat) (hb : b < 128) : lw f 7 b t = ev 128 2 t f (zr b) := by
 show ev 128 2 t f (rt 7 b) = _
 rw [rt_last ⟨b, hb⟩]
theorem lw_even (f : Nat → FZ) (l b t : Nat) (hl : l < 7) (hb : b < 2 ^ l) : lw f (l + 1) (2 * b) t = lw f l b t + zt (2 ^ l + b) * lw f l b (t + 2 ^ (7 - l)) := by
 have h64 : b < 64 := Nat.lt_of_lt_of_le hb (Nat.pow_le_pow_right (by decide) (by omega : l ≤ 6))
 have hs := zt_square ⟨l, hl⟩ ⟨b, h64⟩ hb
 have e1 : 2 ^ (l + 1) = 2 * 2 ^ l := by rw [Nat.pow_succ, Nat.mul_comm]
 have e2 : 2 ^ (8 - l) = 2 * 2 ^ (7 - l) := by rw [show 8 - l = 7 - l + 1 by omega, Nat.pow_succ, Nat.mul_comm]
 have e3 : 8 - (l + 1) = 7 - l := by omega
 unfold lw
 rw [rt_even, e3, e1, e2, ev_plus _ _ _ _ _ _ hs.symm]
theorem lw_odd (f : Nat → FZ) (l b t : Nat) (hl : l < 7) (hb : b < 2 ^ l) : lw f (l + 1) (2 * b + 1) t = lw f l b t - zt (2 ^ l + b) * lw f l b (t + 2 ^ (7 - l)) := by
 have h64 : b < 64 := Nat.lt_of_lt_of_le hb (Nat.pow_le_pow_right (by decide) (by omega : l ≤ 6))
 have hs := zt_square ⟨l, hl⟩ ⟨b, h64⟩ hb
 have e1 : 2 ^ (l + 1) = 2 * 2 ^ l := by rw [Nat.pow_succ, Nat.mul_comm]
 have e2 : 2 ^ (8 - l) = 2 * 2 ^ (7 - l) := by rw [show 8 - l = 7 - l + 1 by omega, Nat.pow_succ, Nat.mul_comm]
 have e3 : 8 - (l + 1) = 7 - l := by omega
 unfold lw
 rw [rt_odd, e3, e1, e2, ev_minus _ _ _ _ _ _ hs.symm]
theorem fz_mul_zero {a b : FZ} (h : a * b = 0) : a = 0 ∨ b = 0 := by
 have h1 : a.val * b.val % 3329 = 0 := by
  have := congrArg Fin.val h
  rwa [Fin.val_mul] at this
 rcases pr3329.dvd_mul (Nat.dvd_of_mod_eq_zero h1) with h2 | h2
 ·left
  apply Fin.ext
  have := a.isLt
  exact Nat.eq_zero_of_dvd_of_lt h2 this
 ·right
  apply Fin.ext
  have := b.isLt
  exact Nat.eq_zero_of_dvd_of_lt h2 this
theorem geo (w : FZ) : ∀ n, (w - 1) * sm n (fun j => pz w j) = pz w n - 1
 | 0 => by
  rw [sm_zero]
  show (w - 1) * 0 = 1 - 1
  grind -lia
 | n + 1 => by
  have h := geo w n
  rw [sm_succ, pz_succ]
  generalize sm n (fun j => pz w j) = a at h ⊢
  generalize pz w n = b at h ⊢
  grind -lia
theorem geo_zero (w : FZ) (h1 : pz w 128 = 1) (hw : w ≠ 1) : sm 128 (fun j => pz w j) = 0 := by
 have h := geo w 128
 rw [h1] at h
 have h2 : (w - 1) * sm 128 (fun j => pz w j) = 0 := by
  rw [h]
  rfl
 rcases fz_mul_zero h2 with h3 | h3
 ·exfalso
  apply hw
  have : w = (w - 1) + 1 := by grind -lia
  rw [this, h3]
  rfl
 ·exact h3
theorem geo_one : sm 128 (fun j => pz 1 j) = 128 := by decide +kernel
def zi (i : Nat) : FZ := pz (zr i) 255
theorem zi_one : ∀ i : Fin 128, zr i.val * zi i.val = 1 := by decide +kernel
theorem zr_pow : ∀ i : Fin 128, pz (zr i.val) 128 = -1 := by decide +kernel
theorem zi_pow : ∀ i : Fin 128, pz (zi i.val) 128 = -1 := by decide +kernel
theorem zr_inj : ∀ i : Fin 128, ∀ k : Fin 128, zr i.val = zr k.val → i = k := by decide +kernel
theorem pz_mul (a b : FZ) : ∀ n, pz (a * b) n = pz a n * pz b n
 | 0 => by
  show (1 : FZ) = 1 * 1
  rfl
 | n + 1 => by
  rw [pz_succ, pz_succ, pz_succ, pz_mul a b n]
  grind -lia
theorem ortho (i k : Nat) (hi : i < 128) (hk : k < 128) : sm 128 (fun j => pz (zi i) j * pz (zr k) j) = if i = k then 128 else 0 := by
 have e : sm 128 (fun j => pz (zi i) j * pz (zr k) j) = sm 128 (fun j => pz (zi i * zr k) j) := sm_congr 128 fun j _ => (pz_mul _ _ j).symm
 rw [e]
 have h1 := zi_one ⟨i, hi⟩
 by_cases h : i = k
 ·rw [if_pos h, ← h, show zi i * zr i = 1 by rw [← h1]; grind -lia]
  exact geo_one
 ·rw [if_neg h]
  refine geo_zero _ ?_ fun hc => h ?_
  ·rw [pz_mul, zi_pow ⟨i, hi⟩, zr_pow ⟨k, hk⟩]
   decide
  ·have h2 : zr k = zr i := by
    have h3 : zr i * (zi i * zr k) = zr i * 1 := by rw [hc]
    have h4 : zr i * (zi i * zr k) = (zr i * zi i) * zr k := by grind -lia
    rw [h4, h1] at h3
    have h5 : (1 : FZ) * zr k = zr k := by grind -lia
    have h6 : zr i * 1 = zr i := by grind -lia
    rw [← h5, h3, h6]
   exact congrArg Fin.val (zr_inj ⟨i, hi⟩ ⟨k, hk⟩ h2.symm)
def fwd (f : Nat → FZ) (p : Nat) : FZ := ev 128 2 (p % 2) f (zr (p / 2))
def inw (g : Nat → FZ) (p : Nat) : FZ := sm 128 fun i => g (2 * i + p % 2) * (3303 * pz (zi i) (p / 2))
theorem fwd_lw (f : Nat → FZ) (b t : Nat) (hb : b < 128) (ht : t < 2) : fwd f (2 * b + t) = lw f 7 b t := by
 rw [lw_last f b t hb]
 unfold fwd
 rw [show (2 * b + t) % 2 = t by omega, show (2 * b + t) / 2 = b by omega]
theorem sm_zeros : ∀ n, sm n (fun _ => 0) = 0
 | 0 => rfl
 | n + 1 => by
  rw [sm_succ, sm_zeros n]
  rfl
theorem sm_swap (f : Nat → Nat → FZ) (m : Nat) : ∀ n, sm n (fun i => sm m (fun j => f i j)) = sm m (fun j => sm n (fun i => f i j))
 | 0 => by
  rw [sm_zero]
  exact (sm_zeros m).symm
 | n + 1 => by
  rw [sm_succ, sm_swap f m n, ← sm_add]
  rfl
theorem sm_one (n k : Nat) (hk : k < n) (f : Nat → FZ) (h : ∀ i, i < n → i ≠ k → f i = 0) : sm n f = f k := by
 induction n with
 | zero => omega
 | succ n ih =>
  rw [sm_succ]
  by_cases hn : k = n
  ·subst hn
   have : sm k f = 0 := by
    rw [sm_congr k (g := fun _ => 0) fun i hi => h i (by omega) (by omega)]
    exact sm_zeros k
   rw [this]
   grind -lia
  ·rw [ih (by omega) fun i hi hne => h i (by omega) hne, h n (by omega) (by omega)]
   grind -lia
theorem fwd_inw (g : Nat → FZ) (p : Nat) (hp : p < 256) : fwd (inw g) p = g p := by
 unfold fwd ev
 have e1 : sm 128 (fun s => inw g (p % 2 + 2 * s) * pz (zr (p / 2)) s) = sm 128 (fun s => sm 128 (fun i => g (2 * i + p % 2) * 3303 * (pz (zi i) s * pz (zr (p / 2)) s))) := by
  refine sm_congr 128 fun s _ => ?_
  unfold inw
  rw [show (p % 2 + 2 * s) % 2 = p % 2 by omega, show (p % 2 + 2 * s) / 2 = s by omega]
  generalize pz (zr (p / 2)) s = c
  have e2 : sm 128 (fun i => g (2 * i + p % 2) * (3303 * pz (zi i) s)) * c = c * sm 128 (fun i => g (2 * i + p % 2) * (3303 * pz (zi i) s)) := by
   generalize sm 128 (fun i => g (2 * i + p % 2) * (3303 * pz (zi i) s)) = a
   grind -lia
  rw [e2, ← sm_mul]
  refine sm_congr 128 fun i _ => ?_
  generalize g (2 * i + p % 2) = a
  generalize pz (zi i) s = b
  grind -lia
 rw [e1, sm_swap]
 have e3 : sm 128 (fun i => sm 128 (fun s => g (2 * i + p % 2) * 3303 * (pz (zi i) s * pz (zr (p / 2)) s))) = sm 128 (fun i => g (2 * i + p % 2) * 3303 * (if i = p / 2 then 128 else 0)) := by
  refine sm_congr 128 fun i hi => ?_
  rw [sm_mul, ortho i (p / 2) hi (by omega)]
 rw [e3, sm_one 128 (p / 2) (by omega) _ fun i _ hne => by
  rw [if_neg hne]
  generalize g (2 * i + p % 2) = a
  grind -lia]
 rw [if_pos rfl, show 2 * (p / 2) + p % 2 = p by omega]
 have e4 : (3303 : FZ) * 128 = 1 := by decide
 generalize g p = a
 have e5 : a * 3303 * 128 = a * ((3303 : FZ) * 128) := by grind -lia
 rw [e5, e4]
 grind -lia
theorem zt_ne : ∀ k : Fin 128, zt k.val ≠ 0 := by decide +kernel
theorem half_zero {a : FZ} (h : 2 * a = 0) : a = 0 := by
 rcases fz_mul_zero h with h1 | h1
 ·exact absurd h1 (by decide)
 ·exact h1
theorem lw_down (f g : Nat → FZ) (l : Nat) (hl : l < 7) (h : ∀ b t, b < 2 ^ (l + 1) → t < 2 ^ (7 - l) → lw f (l + 1) b t = lw g (l + 1) b t) :
  ∀ b t, b < 2 ^ l → t < 2 ^ (8 - l) → lw f l b t = lw g l b t := by
 have key : ∀ b t, b < 2 ^ l → t < 2 ^ (7 - l) → lw f l b t = lw g l b t ∧ lw f l b (t + 2 ^ (7 - l)) = lw g l b (t + 2 ^ (7 - l)) := by
  intro b t hb ht
  have hb2 : 2 * b + 1 < 2 ^ (l + 1) := by rw [Nat.pow_succ]; omega
  have h0 := h (2 * b) t (by omega) ht
  have h1 := h (2 * b + 1) t hb2 ht
  rw [lw_even f l b t hl hb, lw_even g l b t hl hb] at h0
  rw [lw_odd f l b t hl hb, lw_odd g l b t hl hb] at h1
  have hk : 2 ^ l + b < 128 := by
   have : 2 ^ l ≤ 64 := Nat.pow_le_pow_right (by decide) (by omega : l ≤ 6)
   omega
  have hz := zt_ne ⟨2 ^ l + b, hk⟩
  simp only at hz
  generalize zt (2 ^ l + b) = z at h0 h1 hz
  generalize lw f l b t = x at h0 h1 ⊢
  generalize lw g l b t = x' at h0 h1 ⊢
  generalize lw f l b (t + 2 ^ (7 - l)) = y at h0 h1 ⊢
  generalize lw g l b (t + 2 ^ (7 - l)) = y' at h0 h1 ⊢
  have k1 : 2 * (x - x') = 0 := by grind -lia
  have k2 : 2 * (z * (y - y')) = 0 := by grind -lia
  have k3 := half_zero k1
  have k4 := (fz_mul_zero (half_zero k2)).resolve_left hz
  constructor
  ·grind -lia
  ·grind -lia
 intro b t hb ht
 have e2 : 2 ^ (8 - l) = 2 * 2 ^ (7 - l) := by rw [show 8 - l = 7 - l + 1 by omega, Nat.pow_succ, Nat.mul_comm]
 by_cases h1 : t < 2 ^ (7 - l)
 ·exact (key b t hb h1).1
 ·have := (key b (t - 2 ^ (7 - l)) hb (by omega)).2
  rwa [Nat.sub_add_cancel (by omega)] at this
theorem fwd_inj (f g : Nat → FZ) (h : ∀ p, p < 256 → fwd f p = fwd g p) : ∀ p, p < 256 → f p = g p := by
 have h7 : ∀ b t, b < 2 ^ 7 → t < 2 ^ 1 → lw f 7 b t = lw g 7 b t := by
  intro b t hb ht
  rw [← fwd_lw f b t hb ht, ← fwd_lw g b t hb ht]
  exact h _ (by omega)
 have h6 := lw_down f g 6 (by decide) h7
 have h5 := lw_down f g 5 (by decide) h6
 have h4 := lw_down f g 4 (by decide) h5
 have h3 := lw_down f g 3 (by decide) h4
 have h2 := lw_down f g 2 (by decide) h3
 have h1 := lw_down f g 1 (by decide) h2
 have h0 := lw_down f g 0 (by decide) h1
 intro p hp
 have := h0 0 p (by decide) hp
 rwa [lw_first, lw_first] at this
theorem inw_congr (f g : Nat → FZ) (h : ∀ p, p < 256 → f p = g p) (p : Nat) : inw f p = inw g p := by
 unfold inw
 exact sm_congr 128 fun s hs => by rw [h (2 * s + p % 2) (by omega)]
theorem inw_fwd (f : Nat → FZ) (p : Nat) (hp : p < 256) : inw (fwd f) p = f p :=
 fwd_inj (inw (fwd f)) f (fun q hq => fwd_inw (fwd f) q hq) p hp
def allB (p : Nat → Bool) : Nat → Bool
 | 0 => true
 | n + 1 => p n && allB p n
theorem allB_at {p : Nat → Bool} : ∀ {n : Nat}, allB p n = true → ∀ i, i < n → p i = true
 | 0, _, i, h => by omega
 | n + 1, h, i, hi => by
  simp only [allB, Bool.and_eq_true] at h
  rcases Nat.lt_or_ge i n with h1 | h1
  ·exact allB_at h.2 i h1
  ·have : i = n := by omega
   subst this
   exact h.1
theorem twZ_lt (d : Nat) (y : Int) : twZ d y < 2 ^ d := by
 have h : (0 : Int) < ((2 ^ d : Nat) : Int) := by exact_mod_cast Nat.pow_pos (by decide)
 unfold twZ
 have := Int.emod_lt_of_pos y h
 have := Int.emod_nonneg y (by omega : ((2 ^ d : Nat) : Int) ≠ 0)
 omega
theorem and_low (d : Nat) (hd : d ≤ 62) (y : Int) (hy : -9223372036854775808 ≤ y ∧ y ≤ 9223372036854775807) : bits .and .i64 y (((2 ^ d - 1 : Nat)) : Int) = ((twZ d y : Nat) : Int) := by
 have hp : 2 ^ d ≤ 2 ^ 62 := Nat.pow_le_pow_right (by decide) hd
 have hp1 : 1 ≤ 2 ^ d := Nat.pow_pos (by decide)
 have hp2 : (2 : Nat) ^ 62 = 4611686018427387904 := by decide
 have e1 : (BitVec.ofInt 64 (((2 ^ d - 1 : Nat)) : Int)).toNat = 2 ^ d - 1 := ofInt_u64 _ (by omega)
 have e2 : (BitVec.ofInt 64 y &&& BitVec.ofInt 64 (((2 ^ d - 1 : Nat)) : Int)).toNat = twZ d y := by
  rw [BitVec.toNat_and, e1, Nat.and_two_pow_sub_one_eq_mod, BitVec.toNat_ofInt]
  unfold twZ
  have hdv : ((2 ^ d : Nat) : Int) ∣ ((2 ^ 64 : Nat) : Int) := by
   refine Int.natCast_dvd_natCast.2 ⟨2 ^ (64 - d), ?_⟩
   rw [← Nat.pow_add]
   congr 1
   omega
  have h3 : (y % ((2 ^ 64 : Nat) : Int)) % ((2 ^ d : Nat) : Int) = y % ((2 ^ d : Nat) : Int) := Int.emod_emod_of_dvd y hdv
  have h4 : 0 ≤ y % ((2 ^ 64 : Nat) : Int) := Int.emod_nonneg y (by decide)
  rw [← h3]
  obtain ⟨q, hq⟩ := Int.eq_ofNat_of_zero_le h4
  rw [hq]
  simp only [Int.toNat_natCast]
  rw [← Int.natCast_emod, Int.toNat_natCast]
 have h5 := twZ_lt d y
 show IntKind.i64.wrap ((BitVec.ofInt 64 y &&& BitVec.ofInt 64 (((2 ^ d - 1 : Nat)) : Int)).toNat : Int) = _
 rw [e2]
 exact IntWalk.i64_in _ (by constructor <;> omega)
theorem rs_add (a b : Int) : rsZ (a + b) = (rsZ a + rsZ b) % 3329 := by unfold rsZ; omega
theorem rs_sub (a b : Int) : rsZ (a - b) = (rsZ a + 3329 - rsZ b) % 3329 := by unfold rsZ; omega
theorem rs_mul (a b : Int) : rsZ (a * b) = rsZ a * rsZ b % 3329 := by
 have h : ((rsZ (a * b) : Nat) : Int) = ((rsZ a * rsZ b % 3329 : Nat) : Int) := by
  rw [rsZ_int, Int.natCast_emod, Int.natCast_mul, rsZ_int, rsZ_int]
  exact Int.mul_emod a b 3329
 exact_mod_cast h
def x0 (z : FZ) (k : Nat) : FZ := if k % 2 = 0 then pz z (k / 2) else 0
def x1 (z : FZ) (k : Nat) : FZ := if k % 2 = 0 then 0 else pz z (k / 2)
theorem x_add (z : FZ) (i j : Nat) : x0 z (i + j) = x0 z i * x0 z j + z * (x1 z i * x1 z j) ∧ x1 z (i + j) = x0 z i * x1 z j + x1 z i * x0 z j := by
 unfold x0 x1
 by_cases hi : i % 2 = 0
 ·by_cases hj : j % 2 = 0
  ·rw [if_pos (show (i + j) % 2 = 0 by omega), if_pos (show (i + j) % 2 = 0 by omega), if_pos hi, if_pos hj, if_pos hi, if_pos hj, show (i + j) / 2 = i / 2 + j / 2 by omega, pz_add]
   constructor <;> grind -lia
  ·rw [if_neg (show ¬ (i + j) % 2 = 0 by omega), if_neg (show ¬ (i + j) % 2 = 0 by omega), if_pos hi, if_neg hj, if_pos hi, if_neg hj, show (i + j) / 2 = i / 2 + j / 2 by omega, pz_add]
   constructor <;> grind -lia
 ·by_cases hj : j % 2 = 0
  ·rw [if_neg (show ¬ (i + j) % 2 = 0 by omega), if_neg (show ¬ (i + j) % 2 = 0 by omega), if_neg hi, if_pos hj, if_neg hi, if_pos hj, show (i + j) / 2 = i / 2 + j / 2 by omega, pz_add]
   constructor <;> grind -lia
  ·rw [if_pos (show (i + j) % 2 = 0 by omega), if_pos (show (i + j) % 2 = 0 by omega), if_neg hi, if_neg hj, if_neg hi, if_neg hj, show (i + j) / 2 = i / 2 + j / 2 + 1 by omega, pz_succ, pz_add]
   constructor <;> grind -lia
theorem x_turn (z : FZ) (h : pz z 128 = -1) (k : Nat) : x0 z (k + 256) = - x0 z k ∧ x1 z (k + 256) = - x1 z k := by
 unfold x0 x1
 rw [show (k + 256) % 2 = k % 2 by omega, show (k + 256) / 2 = k / 2 + 128 by omega, pz_add, h]
 by_cases hk : k % 2 = 0
 ·rw [if_pos hk, if_pos hk, if_pos hk, if_pos hk]
  constructor <;> grind -lia
 ·rw [if_neg hk, if_neg hk, if_neg hk, if_neg hk]
  constructor <;> grind -lia
def e0 (z : FZ) (f : Nat → FZ) : FZ := sm 256 fun k => f k * x0 z k
def e1 (z : FZ) (f : Nat → FZ) : FZ := sm 256 fun k => f k * x1 z k
theorem e0_ev (z : FZ) (f : Nat → FZ) : e0 z f = ev 128 2 0 f z := by
 unfold e0
 rw [show (256 : Nat) = 2 * 128 from rfl, sm_two]
 have h1 : sm 128 (fun i => f (2 * i + 1) * x0 z (2 * i + 1)) = 0 := by
  rw [sm_congr 128 (g := fun _ => 0) fun i _ => by
   unfold x0
   rw [if_neg (by omega)]
   grind -lia]
  exact sm_zeros 128
 rw [h1]
 have h2 : sm 128 (fun i => f (2 * i) * x0 z (2 * i)) = ev 128 2 0 f z := by
  unfold ev
  refine sm_congr 128 fun i _ => ?_
  unfold x0
  rw [if_pos (by omega), show 2 * i / 2 = i by omega, Nat.zero_add]
 rw [h2]
 generalize ev 128 2 0 f z = a
 grind -lia
theorem e1_ev (z : FZ) (f : Nat → FZ) : e1 z f = ev 128 2 1 f z := by
 unfold e1
 rw [show (256 : Nat) = 2 * 128 from rfl, sm_two]
 have h1 : sm 128 (fun i => f (2 * i) * x1 z (2 * i)) = 0 := by
  rw [sm_congr 128 (g := fun _ => 0) fun i _ => by
   unfold x1
   rw [if_pos (by omega)]
   grind -lia]
  exact sm_zeros 128
 rw [h1]
 have h2 : sm 128 (fun i => f (2 * i + 1) * x1 z (2 * i + 1)) = ev 128 2 1 f z := by
  unfold ev
  refine sm_congr 128 fun i _ => ?_
  unfold x1
  rw [if_neg (by omega), show (2 * i + 1) / 2 = i by omega, Nat.add_comm 1]
 rw [h2]
 generalize ev 128 2 1 f z = a
 grind -lia
theorem sm_put (x : Nat → FZ) (f : Nat → FZ) (m : Nat) (c : FZ) : ∀ n, m < n → sm n (fun k => (if k = m then f m + c else f k) * x k) = sm n (fun k => f k * x k) + c * x m := by
 intro n
 induction n with
 | zero => intro h; omega
 | succ n ih =>
  intro h
  rw [sm_succ, sm_succ]
  by_cases hn : m = n
  ·subst hn
   rw [if_pos rfl, sm_congr m (g := fun k => f k * x k) fun i hi => by rw [if_neg (by omega)]]
   generalize sm m (fun k => f k * x k) = a
   generalize f m = b
   generalize x m = d
   grind -lia
  ·rw [ih (by omega), if_neg (by omega)]
   generalize sm n (fun k => f k * x k) = a
   generalize f n * x n = b
   generalize c * x m = d
   grind -lia
def putZ (f : Nat → FZ) (m : Nat) (c : FZ) (k : Nat) : FZ := if k = m then f m + c else f k
def Pp (a b : Nat → FZ) (i j : Nat) (o : Nat → FZ) : Prop := ∀ z : FZ, pz z 128 = -1 →
 e0 z o = sm i (fun p => sm 256 (fun q => a p * b q * x0 z (p + q))) + sm j (fun q => a i * b q * x0 z (i + q)) ∧
 e1 z o = sm i (fun p => sm 256 (fun q => a p * b q * x1 z (p + q))) + sm j (fun q => a i * b q * x1 z (i + q))
theorem Pp.start (a b : Nat → FZ) (o : Nat → FZ) (h : ∀ k, k < 256 → o k = 0) : Pp a b 0 0 o := by
 intro z _
 unfold e0 e1
 rw [sm_zero, sm_zero, sm_zero, sm_zero]
 constructor
 ·rw [sm_congr 256 (g := fun _ => 0) fun k hk => by
   rw [h k hk]
   grind -lia, sm_zeros]
  rfl
 ·rw [sm_congr 256 (g := fun _ => 0) fun k hk => by
   rw [h k hk]
   grind -lia, sm_zeros]
  rfl
theorem Pp.put {a b o : Nat → FZ} {i j : Nat} (h : Pp a b i j o) (hij : i + j < 256) : Pp a b i (j + 1) (putZ o (i + j) (a i * b j)) := by
 intro z hz
 obtain ⟨h0, h1⟩ := h z hz
 have k0 : e0 z (putZ o (i + j) (a i * b j)) = e0 z o + a i * b j * x0 z (i + j) := sm_put (x0 z) o (i + j) (a i * b j) 256 hij
 have k1 : e1 z (putZ o (i + j) (a i * b j)) = e1 z o + a i * b j * x1 z (i + j) := sm_put (x1 z) o (i + j) (a i * b j) 256 hij
 rw [k0, k1, h0, h1, sm_succ, sm_succ]
 constructor
 ·generalize sm i _ = p
  generalize sm j _ = q
  grind -lia
 ·generalize sm i _ = p
  generalize sm j _ = q
  grind -lia
theorem Pp.turn {a b o : Nat → FZ} {i j : Nat} (h : Pp a b i j o) (hi : i < 256) (hj : j < 256) (hij : 256 ≤ i + j) : Pp a b i (j + 1) (putZ o (i + j - 256) (- (a i * b j))) := by
 intro z hz
 obtain ⟨h0, h1⟩ := h z hz
 have k0 : e0 z (putZ o (i + j - 256) (- (a i * b j))) = e0 z o + - (a i * b j) * x0 z (i + j - 256) := sm_put (x0 z) o (i + j - 256) (- (a i * b j)) 256 (by omega)
 have k1 : e1 z (putZ o (i + j - 256) (- (a i * b j))) = e1 z o + - (a i * b j) * x1 z (i + j - 256) := sm_put (x1 z) o (i + j - 256) (- (a i * b j)) 256 (by omega)
 obtain ⟨t0, t1⟩ := x_turn z hz (i + j - 256)
 rw [show i + j - 256 + 256 = i + j by omega] at t0 t1
 rw [k0, k1, h0, h1, sm_succ, sm_succ, t0, t1]
 constructor
 ·generalize sm i _ = p
  generalize sm j _ = q
  grind -lia
 ·generalize sm i _ = p
  generalize sm j _ = q
  grind -lia
theorem Pp.next {a b o : Nat → FZ} {i : Nat} (h : Pp a b i 256 o) : Pp a b (i + 1) 0 o := by
 intro z hz
 obtain ⟨h0, h1⟩ := h z hz
 constructor
 ·rw [h0, sm_succ i, sm_zero]
  generalize sm i _ = p
  generalize sm 256 (fun q => a i * b q * x0 z (i + q)) = q
  clear h0 h1 h hz
  grind -lia
 ·rw [h1, sm_succ i, sm_zero]
  generalize sm i _ = p
  generalize sm 256 (fun q => a i * b q * x1 z (i + q)) = q
  clear h0 h1 h hz
  grind -lia
theorem e_prod (a b : Nat → FZ) (z : FZ) : sm 256 (fun p => sm 256 (fun q => a p * b q * x0 z (p + q))) = e0 z a * e0 z b + z * (e1 z a * e1 z b) ∧
  sm 256 (fun p => sm 256 (fun q => a p * b q * x1 z (p + q))) = e0 z a * e1 z b + e1 z a * e0 z b := by
 have inner0 : ∀ p, sm 256 (fun q => a p * b q * x0 z (p + q)) = a p * x0 z p * e0 z b + z * (a p * x1 z p * e1 z b) := by
  intro p
  unfold e0 e1
  rw [← sm_mul, ← sm_mul, ← sm_mul, ← sm_add]
  refine sm_congr 256 fun q _ => ?_
  rw [(x_add z p q).1]
  grind -lia
 have inner1 : ∀ p, sm 256 (fun q => a p * b q * x1 z (p + q)) = a p * x0 z p * e1 z b + a p * x1 z p * e0 z b := by
  intro p
  unfold e0 e1
  rw [← sm_mul, ← sm_mul, ← sm_add]
  refine sm_congr 256 fun q _ => ?_
  rw [(x_add z p q).2]
  grind -lia
 constructor
 ·rw [sm_congr 256 fun p _ => inner0 p, sm_add, sm_mul]
  have h1 : sm 256 (fun p => a p * x0 z p * e0 z b) = e0 z a * e0 z b := by
   rw [sm_congr 256 (g := fun p => e0 z b * (a p * x0 z p)) fun p _ => by grind -lia, sm_mul]
   show e0 z b * e0 z a = _
   grind -lia
  have h2 : sm 256 (fun p => a p * x1 z p * e1 z b) = e1 z a * e1 z b := by
   rw [sm_congr 256 (g := fun p => e1 z b * (a p * x1 z p)) fun p _ => by grind -lia, sm_mul]
   show e1 z b * e1 z a = _
   grind -lia
  rw [h1, h2]
 ·rw [sm_congr 256 fun p _ => inner1 p, sm_add]
  have h1 : sm 256 (fun p => a p * x0 z p * e1 z b) = e0 z a * e1 z b := by
   rw [sm_congr 256 (g := fun p => e1 z b * (a p * x0 z p)) fun p _ => by grind -lia, sm_mul]
   show e1 z b * e0 z a = _
   grind -lia
  have h2 : sm 256 (fun p => a p * x1 z p * e0 z b) = e1 z a * e0 z b := by
   rw [sm_congr 256 (g := fun p => e0 z b * (a p * x1 z p)) fun p _ => by grind -lia, sm_mul]
   show e0 z b * e1 z a = _
   grind -lia
  rw [h1, h2]
def tm (a b : Nat → FZ) (p : Nat) : FZ := if p % 2 = 0 then a p * b p + a (p + 1) * b (p + 1) * zr (p / 2) else a (p - 1) * b p + a p * b (p - 1)
def pd (a b : Nat → FZ) (p : Nat) : FZ := inw (tm (fwd a) (fwd b)) p
theorem fwd_even (f : Nat → FZ) (p : Nat) (h : p % 2 = 0) : fwd f p = e0 (zr (p / 2)) f := by
 rw [e0_ev]
 unfold fwd
 rw [h]
theorem fwd_odd (f : Nat → FZ) (p : Nat) (h : p % 2 = 1) : fwd f p = e1 (zr (p / 2)) f := by
 rw [e1_ev]
 unfold fwd
 rw [h]
theorem fwd_pd (a b : Nat → FZ) (p : Nat) (hp : p < 256) : fwd (pd a b) p = tm (fwd a) (fwd b) p := fwd_inw (tm (fwd a) (fwd b)) p hp
theorem Pp.fwd {a b o : Nat → FZ} (h : Pp a b 256 0 o) (p : Nat) (hp : p < 256) : fwd o p = tm (fwd a) (fwd b) p := by
 have hz := zr_pow ⟨p / 2, by omega⟩
 simp only at hz
 obtain ⟨h0, h1⟩ := h _ hz
 rw [sm_zero, (e_prod a b _).1] at h0
 rw [sm_zero, (e_prod a b _).2] at h1
 unfold tm
 by_cases hq : p % 2 = 0
 ·rw [if_pos hq, fwd_even o p hq, fwd_even a p hq, fwd_even b p hq, fwd_odd a (p + 1) (by omega), fwd_odd b (p + 1) (by omega), show (p + 1) / 2 = p / 2 by omega, h0]
  grind -lia
 ·rw [if_neg hq, fwd_odd o p (by omega), fwd_odd a p (by omega), fwd_odd b p (by omega), fwd_even a (p - 1) (by omega), fwd_even b (p - 1) (by omega), show (p - 1) / 2 = p / 2 by omega, h1]
  grind -lia
theorem Pp.done {a b o : Nat → FZ} (h : Pp a b 256 0 o) (p : Nat) (hp : p < 256) : o p = pd a b p :=
 fwd_inj o (pd a b) (fun q hq => by rw [h.fwd q hq, fwd_pd a b q hq]) p hp
theorem tm_congr {a a' b b' : Nat → FZ} (ha : ∀ p, p < 256 → a p = a' p) (hb : ∀ p, p < 256 → b p = b' p) (p : Nat) (hp : p < 256) : tm a b p = tm a' b' p := by
 unfold tm
 by_cases hq : p % 2 = 0
 ·rw [if_pos hq, if_pos hq, ha p hp, hb p hp, ha (p + 1) (by omega), hb (p + 1) (by omega)]
 ·rw [if_neg hq, if_neg hq, ha p hp, hb p hp, ha (p - 1) (by omega), hb (p - 1) (by omega)]
theorem fwd_add (a b : Nat → FZ) (p : Nat) : fwd (fun k => a k + b k) p = fwd a p + fwd b p := by
 unfold fwd ev
 rw [← sm_add]
 exact sm_congr 128 fun s _ => by grind -lia
def gI (F : Nat → Int) : List Int := (List.range 256).map F
theorem gI_length (F : Nat → Int) : (gI F).length = 256 := by simp [gI]
theorem gI_get (F : Nat → Int) {k : Nat} (h : k < 256) : (gI F).getD k 0 = F k := by simp [gI, h]
theorem gI_congr {F G : Nat → Int} (h : ∀ k, k < 256 → F k = G k) : gI F = gI G := List.map_congr_left fun k hk => h k (List.mem_range.1 hk)
theorem gI_set (F : Nat → Int) (i : Nat) (v : Int) : (gI F).set i v = gI fun k => if k = i then v else F k := by
 refine List.ext_getElem (by simp [gI]) fun k h1 h2 => ?_
 simp only [gI, List.getElem_set, List.getElem_map, List.getElem_range]
 by_cases h : i = k
 ·simp [h]
 ·rw [if_neg h, if_neg (fun e => h e.symm)]
theorem gI_ne (F : Nat → Int) : gI F ≠ [] := by
 intro e
 have := gI_length F
 rw [e] at this
 cases this
def fzF (f : Nat → FZ) (k : Nat) : Int := (((f k).val : Nat) : Int)
theorem fz_congr {f g : Nat → FZ} (h : ∀ k, k < 256 → f k = g k) : gI (fzF f) = gI (fzF g) := gI_congr fun k hk => by unfold fzF; rw [h k hk]
theorem fzF_lt (f : Nat → FZ) (k : Nat) : 0 ≤ fzF f k ∧ fzF f k < 3329 := by
 unfold fzF
 have := (f k).isLt
 omega
theorem fz_val_add (x y : FZ) : (x + y).val = (x.val + y.val) % 3329 := Fin.val_add x y
theorem fz_val_mul (x y : FZ) : (x * y).val = x.val * y.val % 3329 := Fin.val_mul x y
theorem fz_val_sub (x y : FZ) : (x - y).val = (x.val + 3329 - y.val) % 3329 := by
 have h := Fin.sub_def x y
 have hx := x.isLt
 have hy := y.isLt
 rw [h]
 show (3329 - y.val + x.val) % 3329 = _
 omega
theorem mul_lt_fz (x y : FZ) : x.val * y.val < 11082241 := by
 have h1 := x.isLt
 have h2 := y.isLt
 have : x.val * y.val ≤ 3328 * 3328 := Nat.mul_le_mul (by omega) (by omega)
 omega
theorem fz_muladd (p x y : FZ) : (p + x * y).val = (p.val + x.val * y.val) % 3329 := by
 rw [fz_val_add, fz_val_mul]
 omega
def hnr (f : Nat → FZ) (o : Nat) (r : FZ) (j : Nat) : FZ := sm (128 - j) fun s => f (o + 2 * (j + s)) * pz r s
theorem sm_front (f : Nat → FZ) : ∀ n, sm (n + 1) f = f 0 + sm n fun i => f (i + 1)
 | 0 => by
  rw [sm_succ, sm_zero, sm_zero]
  grind -lia
 | n + 1 => by
  rw [sm_succ, sm_front f n, sm_succ]
  grind -lia
theorem hnr_step (f : Nat → FZ) (o : Nat) (r : FZ) (j : Nat) (h : j < 128) : hnr f o r j = hnr f o r (j + 1) * r + f (o + 2 * j) := by
 unfold hnr
 rw [show 128 - j = (128 - (j + 1)) + 1 by omega, sm_front]
 have h1 : sm (128 - (j + 1)) (fun i => f (o + 2 * (j + (i + 1))) * pz r (i + 1)) = r * sm (128 - (j + 1)) (fun s => f (o + 2 * (j + 1 + s)) * pz r s) := by
  rw [← sm_mul]
  refine sm_congr _ fun i _ => ?_
  rw [show j + (i + 1) = j + 1 + i by omega, pz_succ]
  generalize f (o + 2 * (j + 1 + i)) = a
  generalize pz r i = b
  grind -lia
 have h2 : f (o + 2 * (j + 0)) * pz r 0 = f (o + 2 * j) := by
  show f (o + 2 * j) * 1 = _
  grind -lia
 rw [h1, h2]
 grind -lia
theorem hnr_all (f : Nat → FZ) (o : Nat) (r : FZ) : hnr f o r 0 = ev 128 2 o f r := by
 unfold hnr ev
 refine sm_congr _ fun s _ => ?_
 rw [Nat.zero_add]
def btY (b : List UInt8) (m : Nat) : Nat := (b.getD (m / 8) 0).toNat / 2 ^ (m % 8) % 2
theorem btY_lt (b : List UInt8) (m : Nat) : btY b m < 2 := Nat.mod_lt _ (by decide)
def fP (f : Nat → Nat) (m : Nat) : List Int := (List.range m).map fun k => ((f k : Nat) : Int)
theorem fP_length (f : Nat → Nat) (m : Nat) : (fP f m).length = m := by simp [fP]
theorem fP_get (f : Nat → Nat) (m k : Nat) (h : k < m) : (fP f m).getD k 0 = ((f k : Nat) : Int) := by simp [fP, h]
theorem fP_next (f : Nat → Nat) (m : Nat) : fP f m ++ [((f m : Nat) : Int)] = fP f (m + 1) := by
 unfold fP
 rw [List.range_succ, List.map_append]
 rfl
def bs (f : Nat → Nat) : Nat → Nat → Nat
 | _, 0 => 0
 | o, n + 1 => f o + 2 * bs f (o + 1) n
theorem bs_zero (f : Nat → Nat) (o : Nat) : bs f o 0 = 0 := rfl
theorem bs_succ (f : Nat → Nat) (o n : Nat) : bs f o (n + 1) = f o + 2 * bs f (o + 1) n := rfl
theorem bs_lt (f : Nat → Nat) (hf : ∀ k, f k < 2) : ∀ (n o : Nat), bs f o n < 2 ^ n
 | 0, _ => Nat.zero_lt_one
 | n + 1, o => by
  have h1 := bs_lt f hf n (o + 1)
  have h2 := hf o
  rw [bs_succ, Nat.pow_succ]
  omega
theorem bs_congr {f g : Nat → Nat} : ∀ (n o p : Nat), (∀ s, s < n → f (o + s) = g (p + s)) → bs f o n = bs g p n
 | 0, _, _, _ => rfl
 | n + 1, o, p, h => by
  have h0 := h 0 (by omega)
  rw [Nat.add_zero, Nat.add_zero] at h0
  rw [bs_succ, bs_succ, h0, bs_congr n (o + 1) (p + 1) fun s hs => by
   have := h (s + 1) (by omega)
   rw [show o + 1 + s = o + (s + 1) by omega, show p + 1 + s = p + (s + 1) by omega]
   exact this]
theorem bs_bit (f : Nat → Nat) (hf : ∀ k, f k < 2) : ∀ (n o j : Nat), j < n → bs f o n / 2 ^ j % 2 = f (o + j)
 | 0, _, _, h => by omega
 | n + 1, o, 0, _ => by
  have := hf o
  show (f o + 2 * bs f (o + 1) n) / 1 % 2 = f o
  omega
 | n + 1, o, j + 1, h => by
  have h1 := bs_bit f hf n (o + 1) j (by omega)
  have h2 := hf o
  rw [bs_succ, Nat.pow_succ, Nat.mul_comm (2 ^ j) 2, ← Nat.div_div_eq_div_mul, show (f o + 2 * bs f (o + 1) n) / 2 = bs f (o + 1) n by omega, h1, show o + 1 + j = o + (j + 1) by omega]
theorem bs_of (x : Nat) : ∀ (n o : Nat), bs (fun k => x / 2 ^ k % 2) o n = x / 2 ^ o % 2 ^ n
 | 0, o => by
  rw [bs_zero, Nat.pow_zero]
  omega
 | n + 1, o => by
  rw [bs_succ, bs_of x n (o + 1), Nat.pow_succ 2 o, ← Nat.div_div_eq_div_mul]
  generalize x / 2 ^ o = y
  rw [Nat.pow_succ 2 n, Nat.mul_comm (2 ^ n) 2, Nat.mod_mul]
def pkB (d : Nat) (F : Nat → Int) (m : Nat) : Nat := rsZ (F (m / d)) / 2 ^ (m % d) % 2
theorem pkB_lt (d : Nat) (F : Nat → Int) (m : Nat) : pkB d F m < 2 := Nat.mod_lt _ (by decide)
def pkY (d : Nat) (F : Nat → Int) (i : Nat) : UInt8 := UInt8.ofNat (bs (pkB d F) (8 * i) 8)
def pkL (d : Nat) (F : Nat → Int) : List UInt8 := (List.range (32 * d)).map (pkY d F)
def pkP (d : Nat) (F : Nat → Int) (m : Nat) : List UInt8 := (List.range m).map (pkY d F)
theorem pkP_length (d : Nat) (F : Nat → Int) (m : Nat) : (pkP d F m).length = m := by simp [pkP]
theorem pkL_length (d : Nat) (F : Nat → Int) : (pkL d F).length = 32 * d := by simp [pkL]
theorem pkP_next (d : Nat) (F : Nat → Int) (m : Nat) : pkP d F m ++ [pkY d F m] = pkP d F (m + 1) := by
 unfold pkP
 rw [List.range_succ, List.map_append]
 rfl
theorem pk_btY (d : Nat) (F : Nat → Int) (m : Nat) (h : m < 256 * d) : btY (pkL d F) m = pkB d F m := by
 have hm : m / 8 < 32 * d := by omega
 unfold btY
 have e1 : (pkL d F).getD (m / 8) 0 = pkY d F (m / 8) := by simp [pkL, hm]
 have h2 := bs_lt (pkB d F) (pkB_lt d F) 8 (8 * (m / 8))
 rw [e1]
 unfold pkY
 rw [UInt8.toNat_ofNat', Nat.mod_eq_of_lt (a := bs (pkB d F) (8 * (m / 8)) 8) h2, bs_bit _ (pkB_lt d F) 8 _ _ (by omega), show 8 * (m / 8) + m % 8 = m by omega]
def upN (d : Nat) (b : List UInt8) (k : Nat) : Nat := bs (btY b) (d * k) d
theorem upN_lt (d : Nat) (b : List UInt8) (k : Nat) : upN d b k < 2 ^ d := bs_lt _ (btY_lt b) _ _
theorem up_pk (d : Nat) (hd : 0 < d) (F : Nat → Int) (k : Nat) (hk : k < 256) : upN d (pkL d F) k = rsZ (F k) % 2 ^ d := by
 unfold upN
 have h := bs_of (rsZ (F k)) d 0
 rw [Nat.pow_zero, Nat.div_one] at h
 rw [← h]
 refine bs_congr d (d * k) 0 fun s hs => ?_
 have hlt : d * k + s < 256 * d := by
  have : d * k + d ≤ d * 256 := by rw [← Nat.mul_succ]; exact Nat.mul_le_mul_left d (by omega)
  rw [Nat.mul_comm d 256] at this
  omega
 rw [pk_btY d F _ hlt]
 unfold pkB
 rw [Nat.mul_add_div hd, Nat.div_eq_of_lt hs, Nat.add_zero, Nat.mul_add_mod, Nat.mod_eq_of_lt hs, Nat.zero_add]
theorem pk_up (d : Nat) (hd : 0 < d) (b : List UInt8) (hb : b.length = 32 * d) (F : Nat → Int) (hF : ∀ k, k < 256 → rsZ (F k) = upN d b k) : pkL d F = b := by
 have hbit : ∀ m, m < 256 * d → pkB d F m = btY b m := fun m hm => by
  have hk : m / d < 256 := by
   rw [Nat.div_lt_iff_lt_mul hd]
   exact hm
  unfold pkB
  rw [hF _ hk]
  unfold upN
  rw [bs_bit _ (btY_lt b) d _ _ (Nat.mod_lt _ hd), Nat.div_add_mod]
 refine List.ext_getElem (by rw [pkL_length, hb]) fun i h1 h2 => ?_
 have hi : i < 32 * d := by rw [← hb]; exact h2
 have e1 : (pkL d F)[i] = pkY d F i := by simp [pkL]
 rw [e1]
 unfold pkY
 have hx : (b.getD i 0) = b[i] := by simp [h2]
 have e2 : bs (pkB d F) (8 * i) 8 = b[i].toNat := by
  have h3 := bs_of b[i].toNat 8 0
  rw [Nat.pow_zero, Nat.div_one, Nat.mod_eq_of_lt (by have := b[i].toNat_lt; simpa using this)] at h3
  rw [← h3]
  refine bs_congr 8 (8 * i) 0 fun s hs => ?_
  rw [hbit _ (by omega)]
  unfold btY
  rw [show (8 * i + s) / 8 = i by omega, show (8 * i + s) % 8 = s by omega, hx, Nat.zero_add]
 rw [e2]
 exact UInt8.ofNat_toNat
def cn (b : List UInt8) (m : Nat) : Nat → Nat
 | 0 => 0
 | e + 1 => cn b m e + btY b (m + e)
theorem cn_le (b : List UInt8) (m : Nat) : ∀ e, cn b m e ≤ e
 | 0 => Nat.le_refl _
 | e + 1 => by
  have h1 := cn_le b m e
  have h2 := btY_lt b (m + e)
  show cn b m e + btY b (m + e) ≤ e + 1
  omega
def nsN (e : Nat) (b : List UInt8) (k : Nat) : Nat := 3329 + cn b (2 * k * e) e - cn b (2 * k * e + e) e
def nsF (e : Nat) (b : List UInt8) (k : Nat) : FZ := nz (nsN e b k)
def upF (d : Nat) (b : List UInt8) (k : Nat) : FZ := nz (upN d b k)
def cpA (d x : Int) : Nat := if 1 ≤ d ∧ d ≤ 11 then cpZ d.toNat x else 0
def dcA (d y : Int) : Nat := if 1 ≤ d ∧ d ≤ 11 then dcZ d.toNat y else 0
def cdN (S : Nat → UInt8) (c : Nat) : Nat := if c % 2 = 0 then (S (3 * (c / 2))).toNat + 256 * ((S (3 * (c / 2) + 1)).toNat % 16) else (S (3 * (c / 2) + 1)).toNat / 16 + 16 * (S (3 * (c / 2) + 2)).toNat
def unA (S : Nat → UInt8) : Nat → List Nat
 | 0 => []
 | c + 1 => if cdN S c < 3329 ∧ (unA S c).length < 256 then unA S c ++ [cdN S c] else unA S c
theorem unA_zero (S : Nat → UInt8) : unA S 0 = [] := rfl
theorem unA_take {S : Nat → UInt8} {c : Nat} (h : cdN S c < 3329) (hl : (unA S c).length < 256) : unA S (c + 1) = unA S c ++ [cdN S c] := if_pos ⟨h, hl⟩
theorem unA_pass {S : Nat → UInt8} {c : Nat} (h : ¬ (cdN S c < 3329 ∧ (unA S c).length < 256)) : unA S (c + 1) = unA S c := if_neg h
theorem unA_le (S : Nat → UInt8) : ∀ c, (unA S c).length ≤ 256
 | 0 => by simp [unA]
 | c + 1 => by
  have ih := unA_le S c
  by_cases h : cdN S c < 3329 ∧ (unA S c).length < 256
  ·rw [unA_take h.1 h.2, List.length_append, List.length_singleton]
   omega
  ·rw [unA_pass h]
   exact ih
theorem unA_full {S : Nat → UInt8} {c : Nat} (h : (unA S c).length = 256) : ∀ d, unA S (c + d) = unA S c
 | 0 => rfl
 | d + 1 => by
  have ih := unA_full h d
  have h2 : ¬ (cdN S (c + d) < 3329 ∧ (unA S (c + d)).length < 256) := by
   rw [ih]
   omega
  show unA S (c + d + 1) = _
  rw [unA_pass h2, ih]
theorem unA_lt (S : Nat → UInt8) : ∀ c, ∀ x ∈ unA S c, x < 3329
 | 0, x, hx => by simp [unA] at hx
 | c + 1, x, hx => by
  have ih := unA_lt S c
  by_cases h : cdN S c < 3329 ∧ (unA S c).length < 256
  ·rw [unA_take h.1 h.2, List.mem_append, List.mem_singleton] at hx
   rcases hx with h1 | rfl
   ·exact ih x h1
   ·exact h.1
  ·rw [unA_pass h] at hx
   exact ih x hx
def unF (S : Nat → UInt8) (k : Nat) : FZ := nz ((unA S 2688).getD k 0)
theorem getD_lt {l : List Nat} (h : ∀ x ∈ l, x < 3329) (k : Nat) : l.getD k 0 < 3329 := by
 by_cases hk : k < l.length
 ·have := h l[k] (List.getElem_mem hk)
  simpa [hk] using this
 ·simp [Nat.not_lt.1 hk]
def unG (l : List Nat) (k : Nat) : Int := ((l.getD k 0 : Nat) : Int)
theorem unG_nil : unG [] = fun _ => 0 := by
 funext k
 simp [unG]
theorem unG_put (l : List Nat) (x k : Nat) : (if k = l.length then ((x : Nat) : Int) else unG l k) = unG (l ++ [x]) k := by
 unfold unG
 by_cases h : k = l.length
 ·rw [if_pos h, h]
  simp
 ·rw [if_neg h]
  by_cases h2 : k < l.length
  ·simp [List.getElem?_append, h2]
  ·have h3 : l.length ≤ k := by omega
   have h4 : (l ++ [x]).length ≤ k := by rw [List.length_append, List.length_singleton]; omega
   rw [List.getD_eq_getElem?_getD, List.getD_eq_getElem?_getD, List.getElem?_eq_none h3, List.getElem?_eq_none h4]
theorem un_done {S : Nat → UInt8} {c : Nat} (hc : c ≤ 2688) (h : c = 2688 ∨ (unA S c).length = 256) : gI (unG (unA S c)) = gI (fzF (unF S)) := by
 have e : unA S 2688 = unA S c := by
  rcases h with rfl | h
  ·rfl
  ·have := unA_full h (2688 - c)
   rw [show c + (2688 - c) = 2688 by omega] at this
   exact this
 refine gI_congr fun k _ => ?_
 unfold unG fzF unF
 rw [e, nz_val, Nat.mod_eq_of_lt (getD_lt (unA_lt S c) k)]
theorem or_i64 (a b : Nat) (ha : a < 4611686018427387904) (hb : b < 4611686018427387904) : bits .or .i64 (a : Int) (b : Int) = ((a ||| b : Nat) : Int) := by
 have hx : a ||| b < 2 ^ 62 := Nat.or_lt_two_pow (by omega) (by omega)
 show IntKind.i64.wrap ((BitVec.ofInt 64 (a : Int) ||| BitVec.ofInt 64 (b : Int)).toNat : Int) = _
 rw [BitVec.toNat_or, ofInt_u64 a (by omega), ofInt_u64 b (by omega)]
 exact IntWalk.i64_in _ (by omega)
theorem or_above (x p i : Nat) (hx : x < 2 ^ i) : x ||| 2 ^ i * p = x + 2 ^ i * p := by
 rw [Nat.or_comm, ← Nat.two_pow_add_eq_or_of_lt hx, Nat.add_comm]
theorem and_oneB (y : Nat) (hy : y < 9223372036854775808) : bits .and .i64 (y : Int) 1 = ((y % 2 : Nat) : Int) := by
 have h := and_low 1 (by decide) (y : Int) (by omega)
 rw [show ((2 ^ 1 - 1 : Nat) : Int) = 1 from rfl] at h
 rw [h]
 unfold twZ
 rw [← Int.natCast_emod, Int.toNat_natCast]
theorem bit_facts (x m : Nat) (hx : x < 256) : ∃ q r y p : Nat, q = m / 8 ∧ r = m % 8 ∧ r < 8 ∧ p = x / 2 ^ (m % 8) % 2 ∧ ((m : Nat) : Int).tdiv 8 = (q : Int) ∧ (m : Int) / 8 = (q : Int) ∧ ((m : Nat) : Int).tmod 8 = (r : Int) ∧ (m : Int) % 8 = (r : Int) ∧ (x : Int) / 2 ^ r = (y : Int) ∧ bits .and .i64 (y : Int) 1 = (p : Int) ∧ y < 256 := by
 have hy : x / 2 ^ (m % 8) < 256 := Nat.lt_of_le_of_lt (Nat.div_le_self _ _) hx
 refine ⟨m / 8, m % 8, x / 2 ^ (m % 8), x / 2 ^ (m % 8) % 2, rfl, rfl, by omega, rfl, ?_, by omega, ?_, by omega, by simp, and_oneB _ (by omega), hy⟩
 ·rw [Int.tdiv_eq_ediv_of_nonneg (by omega)]; omega
 ·rw [Int.tmod_eq_emod_of_nonneg (by omega)]; omega
theorem bs_top (f : Nat → Nat) : ∀ n o, bs f o (n + 1) = bs f o n + 2 ^ n * f (o + n)
 | 0, o => by
  show f o + 2 * 0 = 0 + 1 * f (o + 0)
  rw [Nat.add_zero o]
  omega
 | n + 1, o => by
  rw [bs_succ, bs_top f n (o + 1), bs_succ f o n, Nat.pow_succ, show o + 1 + n = o + (n + 1) by omega, Nat.mul_add, Nat.mul_comm (2 ^ n) 2, Nat.mul_assoc, Nat.add_assoc]
theorem join_facts (f : Nat → Nat) (hf : ∀ k, f k < 2) (o i : Nat) (hi : i < 12) : ∃ P z : Nat, ((f (o + i) : Nat) : Int) * 2 ^ i = (P : Int) ∧ IntKind.i64.wrap (P : Int) = (P : Int) ∧ bits .or .i64 ((bs f o i : Nat) : Int) (P : Int) = (z : Int) ∧ z = bs f o (i + 1) := by
 have h1 := bs_lt f hf i o
 have h2 := hf (o + i)
 have h3 : 2 ^ i ≤ 2 ^ 12 := Nat.pow_le_pow_right (by decide) (by omega)
 have h4 : (2 : Nat) ^ 12 = 4096 := by decide
 have h5 : 2 ^ i * f (o + i) ≤ 2 ^ i * 1 := Nat.mul_le_mul_left _ (by omega)
 refine ⟨2 ^ i * f (o + i), bs f o i + 2 ^ i * f (o + i), ?_, IntWalk.i64_in _ (by omega), ?_, (bs_top f i o).symm⟩
 ·rw [Int.mul_comm]; simp
 ·rw [or_i64 _ _ (by omega) (by omega), or_above _ _ _ h1]
theorem add_facts (b : List UInt8) (o n : Nat) (hn : n < 100) : IntKind.i64.wrap (((cn b o n : Nat) : Int) + ((btY b (o + n) : Nat) : Int)) = ((cn b o (n + 1) : Nat) : Int) := by
 have h1 := cn_le b o n
 have h2 := btY_lt b (o + n)
 rw [IntWalk.i64_in _ (by omega)]
 rfl
theorem leN_digit : ∀ (l : List UInt8) (k : Nat), leN l / 256 ^ k % 256 = (l.getD k 0).toNat
 | [], k => by simp [leN]
 | x :: l, 0 => by
  have := x.toNat_lt
  show (x.toNat + 256 * leN l) / 1 % 256 = x.toNat
  omega
 | x :: l, k + 1 => by
  have := x.toNat_lt
  have ih := leN_digit l k
  show (x.toNat + 256 * leN l) / 256 ^ (k + 1) % 256 = _
  rw [Nat.pow_succ, Nat.mul_comm (256 ^ k) 256, ← Nat.div_div_eq_div_mul, show (x.toNat + 256 * leN l) / 256 = leN l by omega, ih]
  simp
theorem btY_leN (l : List UInt8) (m : Nat) : leN l / 2 ^ m % 2 = btY l m := by
 unfold btY
 rw [← leN_digit l (m / 8)]
 have hp : 2 ^ m = 256 ^ (m / 8) * 2 ^ (m % 8) := by
  rw [show (256 : Nat) = 2 ^ 8 from rfl, ← Nat.pow_mul, ← Nat.pow_add, Nat.div_add_mod]
 rw [hp, ← Nat.div_div_eq_div_mul]
 generalize leN l / 256 ^ (m / 8) = X
 have hr : m % 8 < 8 := Nat.mod_lt _ (by decide)
 have : 2 ^ (m % 8) * 2 ^ (8 - m % 8) = 256 := by rw [← Nat.pow_add, show m % 8 + (8 - m % 8) = 8 by omega]
 have h2 : 2 ∣ 2 ^ (8 - m % 8) := ⟨2 ^ (7 - m % 8), by rw [← Nat.pow_succ', show (7 - m % 8).succ = 8 - m % 8 by omega]⟩
 rw [← this, Nat.mod_mul_right_div_self, Nat.mod_mod_of_dvd _ h2]
theorem bs_leN (l : List UInt8) (o n : Nat) : bs (btY l) o n = leN l / 2 ^ o % 2 ^ n := by
 rw [← bs_of (leN l) n o]
 exact bs_congr n o o fun s _ => (btY_leN l (o + s)).symm
theorem two_of_three (S : Nat → UInt8) (g i : Nat) (hi : i < 2) : bs (btY ((List.range 3).map fun k => S (3 * g + k))) (12 * i) 12 = cdN S (2 * g + i) := by
 rw [bs_leN]
 have e : leN ((List.range 3).map fun k => S (3 * g + k)) = (S (3 * g)).toNat + 256 * ((S (3 * g + 1)).toNat + 256 * ((S (3 * g + 2)).toNat + 256 * 0)) := rfl
 rw [e]
 have a0 := (S (3 * g)).toNat_lt
 have a1 := (S (3 * g + 1)).toNat_lt
 have a2 := (S (3 * g + 2)).toNat_lt
 have p1 : (2 : Nat) ^ 12 = 4096 := by decide
 unfold cdN
 have hc : i = 0 ∨ i = 1 := by omega
 rcases hc with rfl | rfl
 ·rw [if_pos (by omega), show (2 * g + 0) / 2 = g by omega, show 12 * 0 = 0 from rfl, Nat.pow_zero, Nat.div_one, p1]
  omega
 ·rw [if_neg (by omega), show (2 * g + 1) / 2 = g by omega, show 12 * 1 = 12 from rfl, p1]
  omega
theorem ns_sub (e : Nat) (b : List UInt8) (k : Nat) (he : e ≤ 3) : rsZ (((cn b (2 * k * e) e : Nat) : Int) - ((cn b (2 * k * e + e) e : Nat) : Int)) = (nsF e b k).val := by
 have h1 := cn_le b (2 * k * e) e
 have h2 := cn_le b (2 * k * e + e) e
 unfold nsF nsN
 rw [nz_val]
 unfold rsZ
 omega
def ppY (d : Nat) (F : Nat → Int) (m i : Nat) : UInt8 := UInt8.ofNat (bs (pkB d F) (8 * i) (min 8 (m - 8 * i)))
def ppL (d : Nat) (F : Nat → Int) (m : Nat) : List UInt8 := (List.range (32 * d)).map (ppY d F m)
theorem ppL_length (d : Nat) (F : Nat → Int) (m : Nat) : (ppL d F m).length = 32 * d := by simp [ppL]
theorem ppL_zero (d : Nat) (F : Nat → Int) : ppL d F 0 = List.replicate (32 * d) 0 := by
 refine List.ext_getElem (by simp [ppL]) fun i h1 h2 => ?_
 simp only [ppL, List.getElem_map, List.getElem_range, List.getElem_replicate, ppY]
 rw [Nat.zero_sub, Nat.min_eq_right (by omega), bs_zero]
 rfl
theorem ppL_done (d : Nat) (F : Nat → Int) : ppL d F (d * 256) = pkL d F := by
 unfold ppL pkL
 refine List.map_congr_left fun i hi => ?_
 have hi := List.mem_range.1 hi
 unfold ppY pkY
 rw [Nat.min_eq_left (by omega)]
theorem ppY_val (d : Nat) (F : Nat → Int) (m i : Nat) : (ppY d F m i).toNat = bs (pkB d F) (8 * i) (min 8 (m - 8 * i)) := by
 have h1 := bs_lt (pkB d F) (pkB_lt d F) (min 8 (m - 8 * i)) (8 * i)
 have h2 : 2 ^ min 8 (m - 8 * i) ≤ 2 ^ 8 := Nat.pow_le_pow_right (by decide) (by omega)
 unfold ppY
 rw [UInt8.toNat_ofNat']
 exact Nat.mod_eq_of_lt (by omega)
theorem lay_facts (d : Nat) (F : Nat → Int) (m : Nat) (x p : Nat) (hx : x = ((ppL d F m).getD (m / 8) 0).toNat) (hp : p = pkB d F m) (hm : m < 256 * d) :
  ∃ P z : Nat, (p : Int) * 2 ^ (m % 8) = (P : Int) ∧ IntKind.u8.wrap (P : Int) = (P : Int) ∧ bits .or .u8 (x : Int) (P : Int) = (z : Int) ∧ z < 256 ∧ (ppL d F m).set (m / 8) (UInt8.ofNat z) = ppL d F (m + 1) := by
 have hq : m / 8 < 32 * d := by omega
 have e1 : (ppL d F m).getD (m / 8) 0 = ppY d F m (m / 8) := by simp [ppL, hq]
 rw [e1, ppY_val, show min 8 (m - 8 * (m / 8)) = m % 8 by omega] at hx
 have h1 := bs_lt (pkB d F) (pkB_lt d F) (m % 8) (8 * (m / 8))
 rw [← hx] at h1
 have hp2 : p < 2 := by rw [hp]; exact pkB_lt d F m
 have h3 : 2 ^ (m % 8) ≤ 2 ^ 7 := Nat.pow_le_pow_right (by decide) (by omega)
 have h4 : (2 : Nat) ^ 7 = 128 := by decide
 have h5 : 2 ^ (m % 8) * p ≤ 2 ^ (m % 8) * 1 := Nat.mul_le_mul_left _ (by omega)
 refine ⟨2 ^ (m % 8) * p, x + 2 ^ (m % 8) * p, ?_, ?_, ?_, by omega, ?_⟩
 ·rw [Int.mul_comm]; simp
 ·rw [IntKind.wrap_u8']; omega
 ·rw [u8_or_nat _ _ (by omega) (by omega), or_above _ _ _ h1]
 ·refine List.ext_getElem (by simp [ppL]) fun i i1 i2 => ?_
  simp only [ppL, List.getElem_set, List.getElem_map, List.getElem_range]
  by_cases h : m / 8 = i
  ·rw [if_pos h, ← h]
   unfold ppY
   rw [show min 8 (m + 1 - 8 * (m / 8)) = m % 8 + 1 by omega, bs_top, hx, hp, show 8 * (m / 8) + m % 8 = m by omega]
  ·rw [if_neg h]
   unfold ppY
   rw [show min 8 (m + 1 - 8 * i) = min 8 (m - 8 * i) by omega]
theorem upF_val (d : Nat) (b : List UInt8) (k : Nat) : rsZ ((upN d b k : Nat) : Int) = (upF d b k).val := by
 unfold upF
 rw [nz_val, rsZ_nat]
end Go.Proofs.YtmhbjaampobcbaaGreatDoor

/- There and back by factors, and products: plain mathematics. No program's text is named. -/
import Derived.Test.YtbladcgdbhogcabDoorNMath2
namespace Go.Proofs.YtbladcgdbhogcabDoor
set_option linter.unusedSimpArgs false
set_option linter.unusedVariables false

/-- What a polynomial is by its factors. -/
def fwd (f : Nat → FZ) (p : Nat) : FZ := ev 128 2 (p % 2) f (zr (p / 2))
/-- The polynomial that is so by its factors. -/
def inw (g : Nat → FZ) (p : Nat) : FZ := sm 128 fun i => g (2 * i + p % 2) * (3303 * pz (zi i) (p / 2))
theorem fwd_lw (f : Nat → FZ) (b t : Nat) (hb : b < 128) (ht : t < 2) : fwd f (2 * b + t) = lw f 7 b t := by
  rw [lw_last f b t hb]
  unfold fwd
  rw [show (2 * b + t) % 2 = t by omega, show (2 * b + t) / 2 = b by omega]
/-! ### Sums turned round -/
theorem sm_zeros : ∀ n, sm n (fun _ => 0) = 0
  | 0 => rfl
  | n + 1 => by
    rw [sm_succ, sm_zeros n]
    rfl
theorem sm_swap (f : Nat → Nat → FZ) (m : Nat) : ∀ n, sm n (fun i => sm m (fun j => f i j)) = sm m (fun j => sm n (fun i => f i j))
  | 0 => by
    rw [sm_zero]
    exact (sm_zeros m).symm
  | n + 1 => by
    rw [sm_succ, sm_swap f m n, ← sm_add]
    rfl
theorem sm_one (n k : Nat) (hk : k < n) (f : Nat → FZ) (h : ∀ i, i < n → i ≠ k → f i = 0) : sm n f = f k := by
  induction n with
  | zero => omega
  | succ n ih =>
    rw [sm_succ]
    by_cases hn : k = n
    · subst hn
      have : sm k f = 0 := by
        rw [sm_congr k (g := fun _ => 0) fun i hi => h i (by omega) (by omega)]
        exact sm_zeros k
      rw [this]
      grind -lia
    · rw [ih (by omega) fun i hi hne => h i (by omega) hne, h n (by omega) (by omega)]
      grind -lia
theorem fwd_inw (g : Nat → FZ) (p : Nat) (hp : p < 256) : fwd (inw g) p = g p := by
  unfold fwd ev
  have e1 : sm 128 (fun s => inw g (p % 2 + 2 * s) * pz (zr (p / 2)) s) = sm 128 (fun s => sm 128 (fun i => g (2 * i + p % 2) * 3303 * (pz (zi i) s * pz (zr (p / 2)) s))) := by
    refine sm_congr 128 fun s _ => ?_
    unfold inw
    rw [show (p % 2 + 2 * s) % 2 = p % 2 by omega, show (p % 2 + 2 * s) / 2 = s by omega]
    generalize pz (zr (p / 2)) s = c
    have e2 : sm 128 (fun i => g (2 * i + p % 2) * (3303 * pz (zi i) s)) * c = c * sm 128 (fun i => g (2 * i + p % 2) * (3303 * pz (zi i) s)) := by
      generalize sm 128 (fun i => g (2 * i + p % 2) * (3303 * pz (zi i) s)) = a
      grind -lia
    rw [e2, ← sm_mul]
    refine sm_congr 128 fun i _ => ?_
    generalize g (2 * i + p % 2) = a
    generalize pz (zi i) s = b
    grind -lia
  rw [e1, sm_swap]
  have e3 : sm 128 (fun i => sm 128 (fun s => g (2 * i + p % 2) * 3303 * (pz (zi i) s * pz (zr (p / 2)) s))) = sm 128 (fun i => g (2 * i + p % 2) * 3303 * (if i = p / 2 then 128 else 0)) := by
    refine sm_congr 128 fun i hi => ?_
    rw [sm_mul, ortho i (p / 2) hi (by omega)]
  rw [e3, sm_one 128 (p / 2) (by omega) _ fun i _ hne => by
    rw [if_neg hne]
    generalize g (2 * i + p % 2) = a
    grind -lia]
  rw [if_pos rfl, show 2 * (p / 2) + p % 2 = p by omega]
  have e4 : (3303 : FZ) * 128 = 1 := by decide
  generalize g p = a
  have e5 : a * 3303 * 128 = a * ((3303 : FZ) * 128) := by grind -lia
  rw [e5, e4]
  grind -lia
/-! ### One polynomial alone -/
theorem zt_ne : ∀ k : Fin 128, zt k.val ≠ 0 := by decide +kernel
theorem half_zero {a : FZ} (h : 2 * a = 0) : a = 0 := by
  rcases fz_mul_zero h with h1 | h1
  · exact absurd h1 (by decide)
  · exact h1
theorem lw_down (f g : Nat → FZ) (l : Nat) (hl : l < 7) (h : ∀ b t, b < 2 ^ (l + 1) → t < 2 ^ (7 - l) → lw f (l + 1) b t = lw g (l + 1) b t) :
    ∀ b t, b < 2 ^ l → t < 2 ^ (8 - l) → lw f l b t = lw g l b t := by
  have key : ∀ b t, b < 2 ^ l → t < 2 ^ (7 - l) → lw f l b t = lw g l b t ∧ lw f l b (t + 2 ^ (7 - l)) = lw g l b (t + 2 ^ (7 - l)) := by
    intro b t hb ht
    have hb2 : 2 * b + 1 < 2 ^ (l + 1) := by rw [Nat.pow_succ]; omega
    have h0 := h (2 * b) t (by omega) ht
    have h1 := h (2 * b + 1) t hb2 ht
    rw [lw_even f l b t hl hb, lw_even g l b t hl hb] at h0
    rw [lw_odd f l b t hl hb, lw_odd g l b t hl hb] at h1
    have hk : 2 ^ l + b < 128 := by
      have : 2 ^ l ≤ 64 := Nat.pow_le_pow_right (by decide) (by omega : l ≤ 6)
      omega
    have hz := zt_ne ⟨2 ^ l + b, hk⟩
    simp only at hz
    generalize zt (2 ^ l + b) = z at h0 h1 hz
    generalize lw f l b t = x at h0 h1 ⊢
    generalize lw g l b t = x' at h0 h1 ⊢
    generalize lw f l b (t + 2 ^ (7 - l)) = y at h0 h1 ⊢
    generalize lw g l b (t + 2 ^ (7 - l)) = y' at h0 h1 ⊢
    have k1 : 2 * (x - x') = 0 := by grind -lia
    have k2 : 2 * (z * (y - y')) = 0 := by grind -lia
    have k3 := half_zero k1
    have k4 := (fz_mul_zero (half_zero k2)).resolve_left hz
    constructor
    · grind -lia
    · grind -lia
  intro b t hb ht
  have e2 : 2 ^ (8 - l) = 2 * 2 ^ (7 - l) := by rw [show 8 - l = 7 - l + 1 by omega, Nat.pow_succ, Nat.mul_comm]
  by_cases h1 : t < 2 ^ (7 - l)
  · exact (key b t hb h1).1
  · have := (key b (t - 2 ^ (7 - l)) hb (by omega)).2
    rwa [Nat.sub_add_cancel (by omega)] at this
theorem fwd_inj (f g : Nat → FZ) (h : ∀ p, p < 256 → fwd f p = fwd g p) : ∀ p, p < 256 → f p = g p := by
  have h7 : ∀ b t, b < 2 ^ 7 → t < 2 ^ 1 → lw f 7 b t = lw g 7 b t := by
    intro b t hb ht
    rw [← fwd_lw f b t hb ht, ← fwd_lw g b t hb ht]
    exact h _ (by omega)
  have h6 := lw_down f g 6 (by decide) h7
  have h5 := lw_down f g 5 (by decide) h6
  have h4 := lw_down f g 4 (by decide) h5
  have h3 := lw_down f g 3 (by decide) h4
  have h2 := lw_down f g 2 (by decide) h3
  have h1 := lw_down f g 1 (by decide) h2
  have h0 := lw_down f g 0 (by decide) h1
  intro p hp
  have := h0 0 p (by decide) hp
  rwa [lw_first, lw_first] at this
theorem fwd_congr (f g : Nat → FZ) (h : ∀ p, p < 256 → f p = g p) (p : Nat) : fwd f p = fwd g p := by
  unfold fwd ev
  exact sm_congr 128 fun s hs => by rw [h (p % 2 + 2 * s) (by omega)]
theorem inw_congr (f g : Nat → FZ) (h : ∀ p, p < 256 → f p = g p) (p : Nat) : inw f p = inw g p := by
  unfold inw
  exact sm_congr 128 fun s hs => by rw [h (2 * s + p % 2) (by omega)]
theorem inw_fwd (f : Nat → FZ) (p : Nat) (hp : p < 256) : inw (fwd f) p = f p :=
  fwd_inj (inw (fwd f)) f (fun q hq => fwd_inw (fwd f) q hq) p hp
end Go.Proofs.YtbladcgdbhogcabDoor

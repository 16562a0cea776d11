/- Polynomials of 256 places as rows of numbers, and rests of them: plain mathematics. No program's text is named. -/
import Derived.Test.YtbladcgdbhogcabDoorNMath4
namespace Go.Proofs.YtbladcgdbhogcabDoor
set_option linter.unusedSimpArgs false
set_option linter.unusedVariables false

/-- 256 numbers. -/
def gI (F : Nat → Int) : List Int := (List.range 256).map F
theorem gI_length (F : Nat → Int) : (gI F).length = 256 := by simp [gI]
theorem gI_get (F : Nat → Int) {k : Nat} (h : k < 256) : (gI F).getD k 0 = F k := by simp [gI, h]
theorem gI_congr {F G : Nat → Int} (h : ∀ k, k < 256 → F k = G k) : gI F = gI G := List.map_congr_left fun k hk => h k (List.mem_range.1 hk)
theorem gI_set (F : Nat → Int) (i : Nat) (v : Int) : (gI F).set i v = gI fun k => if k = i then v else F k := by
  refine List.ext_getElem (by simp [gI]) fun k h1 h2 => ?_
  simp only [gI, List.getElem_set, List.getElem_map, List.getElem_range]
  by_cases h : i = k
  · simp [h]
  · rw [if_neg h, if_neg (fun e => h e.symm)]
theorem gI_of {l : List Int} (h : l.length = 256) : l = gI fun k => l.getD k 0 := by
  refine List.ext_getElem (by rw [gI_length, h]) fun k h1 h2 => ?_
  simp [gI, h1]
theorem gI_ne (F : Nat → Int) : gI F ≠ [] := by
  intro e
  have := gI_length F
  rw [e] at this
  cases this
/-- Rests as numbers. -/
def fzF (f : Nat → FZ) (k : Nat) : Int := (((f k).val : Nat) : Int)
/-- What numbers stand for. -/
def lf (l : List Int) (k : Nat) : FZ := nz (rsZ (l.getD k 0))
theorem lf_fz (f : Nat → FZ) {k : Nat} (h : k < 256) : lf (gI (fzF f)) k = f k := by
  unfold lf
  rw [gI_get _ h]
  unfold fzF
  rw [rsZ_nat]
  refine Fin.ext ?_
  rw [nz_val, Nat.mod_mod]
  exact Nat.mod_eq_of_lt (f k).isLt
theorem fz_inj {f g : Nat → FZ} (h : gI (fzF f) = gI (fzF g)) {k : Nat} (hk : k < 256) : f k = g k := by rw [← lf_fz f hk, ← lf_fz g hk, h]
theorem fz_congr {f g : Nat → FZ} (h : ∀ k, k < 256 → f k = g k) : gI (fzF f) = gI (fzF g) := gI_congr fun k hk => by unfold fzF; rw [h k hk]
theorem fzF_lt (f : Nat → FZ) (k : Nat) : 0 ≤ fzF f k ∧ fzF f k < 3329 := by
  unfold fzF
  have := (f k).isLt
  omega
theorem fz_val_add (x y : FZ) : (x + y).val = (x.val + y.val) % 3329 := Fin.val_add x y
theorem fz_val_mul (x y : FZ) : (x * y).val = x.val * y.val % 3329 := Fin.val_mul x y
theorem fz_val_sub (x y : FZ) : (x - y).val = (x.val + 3329 - y.val) % 3329 := by
  have h := Fin.sub_def x y
  have hx := x.isLt
  have hy := y.isLt
  rw [h]
  show (3329 - y.val + x.val) % 3329 = _
  omega
theorem fz_val_neg (x : FZ) : (-x).val = (3329 - x.val) % 3329 := Fin.neg_def x ▸ rfl
theorem mul_lt_fz (x y : FZ) : x.val * y.val < 11082241 := by
  have h1 := x.isLt
  have h2 := y.isLt
  have : x.val * y.val ≤ 3328 * 3328 := Nat.mul_le_mul (by omega) (by omega)
  omega
/-- A number, a product added, its rest. -/
theorem fz_muladd (p x y : FZ) : (p + x * y).val = (p.val + x.val * y.val) % 3329 := by
  rw [fz_val_add, fz_val_mul]
  omega
/-! ### Horner's way -/
def hnr (f : Nat → FZ) (o : Nat) (r : FZ) (j : Nat) : FZ := sm (128 - j) fun s => f (o + 2 * (j + s)) * pz r s
theorem sm_front (f : Nat → FZ) : ∀ n, sm (n + 1) f = f 0 + sm n fun i => f (i + 1)
  | 0 => by
    rw [sm_succ, sm_zero, sm_zero]
    grind -lia
  | n + 1 => by
    rw [sm_succ, sm_front f n, sm_succ]
    grind -lia
theorem hnr_end (f : Nat → FZ) (o : Nat) (r : FZ) : hnr f o r 128 = 0 := rfl
theorem hnr_step (f : Nat → FZ) (o : Nat) (r : FZ) (j : Nat) (h : j < 128) : hnr f o r j = hnr f o r (j + 1) * r + f (o + 2 * j) := by
  unfold hnr
  rw [show 128 - j = (128 - (j + 1)) + 1 by omega, sm_front]
  have h1 : sm (128 - (j + 1)) (fun i => f (o + 2 * (j + (i + 1))) * pz r (i + 1)) = r * sm (128 - (j + 1)) (fun s => f (o + 2 * (j + 1 + s)) * pz r s) := by
    rw [← sm_mul]
    refine sm_congr _ fun i _ => ?_
    rw [show j + (i + 1) = j + 1 + i by omega, pz_succ]
    generalize f (o + 2 * (j + 1 + i)) = a
    generalize pz r i = b
    grind -lia
  have h2 : f (o + 2 * (j + 0)) * pz r 0 = f (o + 2 * j) := by
    show f (o + 2 * j) * 1 = _
    grind -lia
  rw [h1, h2]
  grind -lia
theorem hnr_all (f : Nat → FZ) (o : Nat) (r : FZ) : hnr f o r 0 = ev 128 2 o f r := by
  unfold hnr ev
  refine sm_congr _ fun s _ => ?_
  rw [Nat.zero_add]
end Go.Proofs.YtbladcgdbhogcabDoor

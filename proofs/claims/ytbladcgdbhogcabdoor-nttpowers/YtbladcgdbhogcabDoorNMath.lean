/- Rests by 3329 as members of a field, sums, and how a transform goes level by level: plain mathematics. No program's text is named. -/
import Derived.Test.YtbladcgdbhogcabDoorZMath
namespace Go.Proofs.YtbladcgdbhogcabDoor
set_option linter.unusedSimpArgs false
set_option linter.unusedVariables false

abbrev FZ := Fin 3329
/-- A number as a member of the field. -/
def nz (x : Nat) : FZ := ⟨x % 3329, Nat.mod_lt _ (by decide)⟩
theorem nz_val (x : Nat) : (nz x).val = x % 3329 := rfl
theorem nz_eq {x y : Nat} : nz x = nz y ↔ x % 3329 = y % 3329 := by
  constructor
  · intro h
    exact congrArg Fin.val h
  · intro h
    exact Fin.ext h
theorem nz_add (x y : Nat) : nz (x + y) = nz x + nz y := by
  apply Fin.ext
  rw [Fin.val_add]
  exact Nat.add_mod x y _
theorem nz_mul (x y : Nat) : nz (x * y) = nz x * nz y := by
  apply Fin.ext
  rw [Fin.val_mul]
  exact Nat.mul_mod x y _
theorem nz_self (a : FZ) : nz a.val = a := Fin.ext (Nat.mod_eq_of_lt a.isLt)

/-- A sum over the numbers below n. -/
def sm (n : Nat) (f : Nat → FZ) : FZ := match n with
  | 0 => 0
  | n + 1 => sm n f + f n
theorem sm_zero (f : Nat → FZ) : sm 0 f = 0 := rfl
theorem sm_succ (n : Nat) (f : Nat → FZ) : sm (n + 1) f = sm n f + f n := rfl
theorem sm_congr {f g : Nat → FZ} : ∀ n, (∀ i, i < n → f i = g i) → sm n f = sm n g
  | 0, _ => rfl
  | n + 1, h => by
    unfold sm
    rw [sm_congr n fun i hi => h i (by omega), h n (by omega)]
theorem sm_add (f g : Nat → FZ) : ∀ n, sm n (fun i => f i + g i) = sm n f + sm n g
  | 0 => by unfold sm; rfl
  | n + 1 => by
    unfold sm
    rw [sm_add f g n]
    generalize sm n f = a
    generalize sm n g = b
    generalize f n = c
    generalize g n = d
    grind -lia
theorem sm_mul (c : FZ) (f : Nat → FZ) : ∀ n, sm n (fun i => c * f i) = c * sm n f
  | 0 => by
    unfold sm
    grind -lia
  | n + 1 => by
    unfold sm
    rw [sm_mul c f n]
    generalize sm n f = a
    generalize f n = b
    grind -lia
/-- Even places, then odd ones. -/
theorem sm_two (f : Nat → FZ) : ∀ n, sm (2 * n) f = sm n (fun i => f (2 * i)) + sm n (fun i => f (2 * i + 1))
  | 0 => by
    unfold sm
    grind -lia
  | n + 1 => by
    have e : 2 * (n + 1) = 2 * n + 1 + 1 := by omega
    rw [e, sm_succ, sm_succ, sm_succ, sm_succ, sm_two f n]
    generalize sm n (fun i => f (2 * i)) = a
    generalize sm n (fun i => f (2 * i + 1)) = b
    generalize f (2 * n) = c
    generalize f (2 * n + 1) = d
    grind -lia
/-- Powers. -/
def pz (r : FZ) : Nat → FZ
  | 0 => 1
  | n + 1 => pz r n * r
theorem pz_succ (r : FZ) (n : Nat) : pz r (n + 1) = pz r n * r := rfl
theorem pz_add (r : FZ) (m : Nat) : ∀ n, pz r (m + n) = pz r m * pz r n
  | 0 => by
    show pz r m = pz r m * 1
    grind -lia
  | n + 1 => by
    rw [← Nat.add_assoc, pz_succ, pz_add r m n, pz_succ]
    grind -lia
theorem pz_two (z : FZ) : ∀ i, pz z (2 * i) = pz (z * z) i
  | 0 => rfl
  | i + 1 => by
    have e : 2 * (i + 1) = 2 * i + 1 + 1 := by omega
    rw [e, pz_succ, pz_succ, pz_succ, pz_two z i]
    grind -lia
theorem pz_neg (z : FZ) : ∀ i, pz (-z) (2 * i) = pz z (2 * i) ∧ pz (-z) (2 * i + 1) = - pz z (2 * i + 1) := by
  intro i
  have h : pz (-z) (2 * i) = pz z (2 * i) := by
    rw [pz_two, pz_two]
    congr 1
    grind -lia
  refine ⟨h, ?_⟩
  rw [pz_succ, pz_succ, h]
  grind -lia
theorem pz_nz (x n : Nat) : nz (x ^ n) = pz (nz x) n := by
  induction n with
  | zero => rfl
  | succ n ih => rw [Nat.pow_succ, nz_mul, ih, pz_succ]
/-- The value of places o, o + l, o + 2 l .. as a polynomial at r. -/
def ev (n l o : Nat) (f : Nat → FZ) (r : FZ) : FZ := sm n fun s => f (o + l * s) * pz r s
/-- A level down: the value at a root's root. -/
theorem ev_plus (n l o : Nat) (f : Nat → FZ) (r z : FZ) (h : r = z * z) : ev (2 * n) l o f z = ev n (2 * l) o f r + z * ev n (2 * l) (o + l) f r := by
  unfold ev
  rw [sm_two, ← sm_mul]
  congr 1
  · refine sm_congr n fun i _ => ?_
    have e1 : o + l * (2 * i) = o + 2 * l * i := by rw [Nat.mul_comm 2 l, Nat.mul_assoc]
    rw [e1, pz_two, h]
  · refine sm_congr n fun i _ => ?_
    have e1 : o + l * (2 * i + 1) = o + l + 2 * l * i := by rw [Nat.mul_add, Nat.mul_comm 2 l, Nat.mul_assoc, Nat.mul_one]; omega
    rw [e1, pz_succ, pz_two, h]
    generalize f (o + l + 2 * l * i) = a
    generalize pz (z * z) i = b
    grind -lia
theorem ev_minus (n l o : Nat) (f : Nat → FZ) (r z : FZ) (h : r = z * z) : ev (2 * n) l o f (-z) = ev n (2 * l) o f r - z * ev n (2 * l) (o + l) f r := by
  rw [ev_plus n l o f r (-z) (by rw [h]; grind -lia)]
  generalize ev n (2 * l) o f r = a
  generalize ev n (2 * l) (o + l) f r = b
  grind -lia
end Go.Proofs.YtbladcgdbhogcabDoor

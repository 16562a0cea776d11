/- One term alone: what it is by its factors, and what it makes of a polynomial: plain mathematics. No program's text is named. -/
import Derived.Test.YtbladcgdbhogcabDoorNMath4
namespace Go.Proofs.YtbladcgdbhogcabDoor
set_option linter.unusedSimpArgs false
set_option linter.unusedVariables false

/-- One term alone. -/
def unZ (k : Nat) (c : FZ) (i : Nat) : FZ := if i = k then c else 0
/-- A polynomial, moved by k places and taken c times; what goes round the end has the other sign. -/
def mvZ (f : Nat → FZ) (k : Nat) (c : FZ) (p : Nat) : FZ := if k ≤ p then f (p - k) * c else -(f (p + 256 - k) * c)
theorem sm_split (f : Nat → FZ) (m : Nat) : ∀ n, sm (m + n) f = sm m f + sm n (fun i => f (m + i))
  | 0 => by
    rw [Nat.add_zero, sm_zero]
    generalize sm m f = a
    grind -lia
  | n + 1 => by
    rw [← Nat.add_assoc, sm_succ, sm_split f m n, sm_succ]
    generalize sm m f = a
    generalize sm n _ = b
    grind -lia
theorem mv_sum (f : Nat → FZ) (k : Nat) (hk : k ≤ 256) (c : FZ) (x : Nat → FZ) (hx : ∀ j, x (j + 256) = - x j) :
    sm 256 (fun p => mvZ f k c p * x p) = sm 256 (fun i => f i * c * x (i + k)) := by
  obtain ⟨n, hn⟩ : ∃ n, n + k = 256 := ⟨256 - k, by omega⟩
  have e1 : sm 256 (fun p => mvZ f k c p * x p) = sm k (fun p => mvZ f k c p * x p) + sm n (fun i => mvZ f k c (k + i) * x (k + i)) := by
    rw [← sm_split, Nat.add_comm k n, hn]
  have e2 : sm 256 (fun i => f i * c * x (i + k)) = sm n (fun i => f i * c * x (i + k)) + sm k (fun j => f (n + j) * c * x (n + j + k)) := by
    rw [← sm_split (fun i => f i * c * x (i + k)), hn]
  have e3 : sm k (fun p => mvZ f k c p * x p) = sm k (fun j => f (n + j) * c * x (n + j + k)) := by
    refine sm_congr k fun j hj => ?_
    unfold mvZ
    rw [if_neg (by omega), show n + j + k = j + 256 by omega, hx, show j + 256 - k = n + j by omega]
    grind -lia
  have e4 : sm n (fun i => mvZ f k c (k + i) * x (k + i)) = sm n (fun i => f i * c * x (i + k)) := by
    refine sm_congr n fun i hi => ?_
    unfold mvZ
    rw [if_pos (by omega), show k + i - k = i by omega, Nat.add_comm k i]
  rw [e1, e2, e3, e4]
  generalize sm k _ = a
  generalize sm n _ = b
  grind -lia
theorem e0_mv (f : Nat → FZ) (k : Nat) (hk : k ≤ 256) (c z : FZ) (hz : pz z 128 = -1) : e0 z (mvZ f k c) = c * (x0 z k * e0 z f + z * (x1 z k * e1 z f)) := by
  show sm 256 (fun p => mvZ f k c p * x0 z p) = _
  rw [mv_sum f k hk c (x0 z) (fun j => (x_turn z hz j).1)]
  unfold e0 e1
  rw [← sm_mul, ← sm_mul, ← sm_mul, ← sm_add, ← sm_mul]
  refine sm_congr 256 fun i _ => ?_
  rw [(x_add z i k).1]
  grind -lia
theorem e1_mv (f : Nat → FZ) (k : Nat) (hk : k ≤ 256) (c z : FZ) (hz : pz z 128 = -1) : e1 z (mvZ f k c) = c * (x1 z k * e0 z f + x0 z k * e1 z f) := by
  show sm 256 (fun p => mvZ f k c p * x1 z p) = _
  rw [mv_sum f k hk c (x1 z) (fun j => (x_turn z hz j).2)]
  unfold e0 e1
  rw [← sm_mul, ← sm_mul, ← sm_add, ← sm_mul]
  refine sm_congr 256 fun i _ => ?_
  rw [(x_add z i k).2]
  grind -lia
theorem e0_un (k : Nat) (hk : k < 256) (c z : FZ) : e0 z (unZ k c) = c * x0 z k := by
  unfold e0
  rw [sm_one 256 k hk (fun i => unZ k c i * x0 z i) fun i _ hi => by
    unfold unZ
    rw [if_neg hi]
    grind -lia]
  unfold unZ
  rw [if_pos rfl]
theorem e1_un (k : Nat) (hk : k < 256) (c z : FZ) : e1 z (unZ k c) = c * x1 z k := by
  unfold e1
  rw [sm_one 256 k hk (fun i => unZ k c i * x1 z i) fun i _ hi => by
    unfold unZ
    rw [if_neg hi]
    grind -lia]
  unfold unZ
  rw [if_pos rfl]
/-- A polynomial times one term. -/
theorem pd_un (f : Nat → FZ) (k : Nat) (hk : k < 256) (c : FZ) (p : Nat) (hp : p < 256) : pd f (unZ k c) p = mvZ f k c p := by
  refine fwd_inj _ _ (fun q hq => ?_) p hp
  rw [fwd_pd f _ q hq]
  have hz := zr_pow ⟨q / 2, by omega⟩
  simp only at hz
  unfold tm
  by_cases h : q % 2 = 0
  · rw [if_pos h, fwd_even f q h, fwd_even _ q h, fwd_odd f (q + 1) (by omega), fwd_odd _ (q + 1) (by omega), show (q + 1) / 2 = q / 2 by omega, fwd_even (mvZ f k c) q h, e0_mv f k (by omega) c _ hz, e0_un k hk, e1_un k hk]
    grind -lia
  · rw [if_neg h, fwd_odd f q (by omega), fwd_odd _ q (by omega), fwd_even f (q - 1) (by omega), fwd_even _ (q - 1) (by omega), show (q - 1) / 2 = q / 2 by omega, fwd_odd (mvZ f k c) q (by omega), e1_mv f k (by omega) c _ hz, e0_un k hk, e1_un k hk]
    grind -lia
/-- What 1 is by its factors. -/
theorem fwd_unit (p : Nat) : fwd (unZ 0 1) p = if p % 2 = 0 then 1 else 0 := by
  by_cases h : p % 2 = 0
  · rw [if_pos h, fwd_even _ p h, e0_un 0 (by decide)]
    unfold x0
    rw [if_pos rfl]
    show (1 : FZ) * 1 = 1
    decide
  · rw [if_neg h, fwd_odd _ p (by omega), e1_un 0 (by decide)]
    unfold x1
    rw [if_pos rfl]
    decide
theorem tm_unit (p : Nat) : tm (fwd (unZ 0 1)) (fwd (unZ 0 1)) p = if p % 2 = 0 then 1 else 0 := by
  unfold tm
  by_cases h : p % 2 = 0
  · rw [if_pos h, if_pos h, fwd_unit, fwd_unit, if_pos h, if_neg (by omega)]
    grind -lia
  · rw [if_neg h, if_neg h, fwd_unit, fwd_unit, if_neg h, if_pos (by omega)]
    grind -lia
/-- A turn round the end. -/
theorem pd_round : pd (unZ 255 1) (unZ 1 1) 0 = 3328 ∧ pd (unZ 255 1) (unZ 1 1) 1 = 0 := by
  rw [pd_un _ 1 (by decide) 1 0 (by decide), pd_un _ 1 (by decide) 1 1 (by decide)]
  decide
end Go.Proofs.YtbladcgdbhogcabDoor

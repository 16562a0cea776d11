/- Products of polynomials, term by term and factor by factor: plain mathematics. No program's text is named. -/
import Derived.Test.YtbladcgdbhogcabDoorNMath3
namespace Go.Proofs.YtbladcgdbhogcabDoor
set_option linter.unusedSimpArgs false
set_option linter.unusedVariables false

/-- A power of X by X X = z: what stands with 1, and what stands with X. -/
def x0 (z : FZ) (k : Nat) : FZ := if k % 2 = 0 then pz z (k / 2) else 0
def x1 (z : FZ) (k : Nat) : FZ := if k % 2 = 0 then 0 else pz z (k / 2)
theorem x_add (z : FZ) (i j : Nat) : x0 z (i + j) = x0 z i * x0 z j + z * (x1 z i * x1 z j) ∧ x1 z (i + j) = x0 z i * x1 z j + x1 z i * x0 z j := by
  unfold x0 x1
  by_cases hi : i % 2 = 0
  · by_cases hj : j % 2 = 0
    · rw [if_pos (show (i + j) % 2 = 0 by omega), if_pos (show (i + j) % 2 = 0 by omega), if_pos hi, if_pos hj, if_pos hi, if_pos hj, show (i + j) / 2 = i / 2 + j / 2 by omega, pz_add]
      constructor <;> grind -lia
    · rw [if_neg (show ¬ (i + j) % 2 = 0 by omega), if_neg (show ¬ (i + j) % 2 = 0 by omega), if_pos hi, if_neg hj, if_pos hi, if_neg hj, show (i + j) / 2 = i / 2 + j / 2 by omega, pz_add]
      constructor <;> grind -lia
  · by_cases hj : j % 2 = 0
    · rw [if_neg (show ¬ (i + j) % 2 = 0 by omega), if_neg (show ¬ (i + j) % 2 = 0 by omega), if_neg hi, if_pos hj, if_neg hi, if_pos hj, show (i + j) / 2 = i / 2 + j / 2 by omega, pz_add]
      constructor <;> grind -lia
    · rw [if_pos (show (i + j) % 2 = 0 by omega), if_pos (show (i + j) % 2 = 0 by omega), if_neg hi, if_neg hj, if_neg hi, if_neg hj, show (i + j) / 2 = i / 2 + j / 2 + 1 by omega, pz_succ, pz_add]
      constructor <;> grind -lia
theorem x_turn (z : FZ) (h : pz z 128 = -1) (k : Nat) : x0 z (k + 256) = - x0 z k ∧ x1 z (k + 256) = - x1 z k := by
  unfold x0 x1
  rw [show (k + 256) % 2 = k % 2 by omega, show (k + 256) / 2 = k / 2 + 128 by omega, pz_add, h]
  by_cases hk : k % 2 = 0
  · rw [if_pos hk, if_pos hk, if_pos hk, if_pos hk]
    constructor <;> grind -lia
  · rw [if_neg hk, if_neg hk, if_neg hk, if_neg hk]
    constructor <;> grind -lia
/-- A polynomial by X X = z. -/
def e0 (z : FZ) (f : Nat → FZ) : FZ := sm 256 fun k => f k * x0 z k
def e1 (z : FZ) (f : Nat → FZ) : FZ := sm 256 fun k => f k * x1 z k
theorem e0_ev (z : FZ) (f : Nat → FZ) : e0 z f = ev 128 2 0 f z := by
  unfold e0
  rw [show (256 : Nat) = 2 * 128 from rfl, sm_two]
  have h1 : sm 128 (fun i => f (2 * i + 1) * x0 z (2 * i + 1)) = 0 := by
    rw [sm_congr 128 (g := fun _ => 0) fun i _ => by
      unfold x0
      rw [if_neg (by omega)]
      grind -lia]
    exact sm_zeros 128
  rw [h1]
  have h2 : sm 128 (fun i => f (2 * i) * x0 z (2 * i)) = ev 128 2 0 f z := by
    unfold ev
    refine sm_congr 128 fun i _ => ?_
    unfold x0
    rw [if_pos (by omega), show 2 * i / 2 = i by omega, Nat.zero_add]
  rw [h2]
  generalize ev 128 2 0 f z = a
  grind -lia
theorem e1_ev (z : FZ) (f : Nat → FZ) : e1 z f = ev 128 2 1 f z := by
  unfold e1
  rw [show (256 : Nat) = 2 * 128 from rfl, sm_two]
  have h1 : sm 128 (fun i => f (2 * i) * x1 z (2 * i)) = 0 := by
    rw [sm_congr 128 (g := fun _ => 0) fun i _ => by
      unfold x1
      rw [if_pos (by omega)]
      grind -lia]
    exact sm_zeros 128
  rw [h1]
  have h2 : sm 128 (fun i => f (2 * i + 1) * x1 z (2 * i + 1)) = ev 128 2 1 f z := by
    unfold ev
    refine sm_congr 128 fun i _ => ?_
    unfold x1
    rw [if_neg (by omega), show (2 * i + 1) / 2 = i by omega, Nat.add_comm 1]
  rw [h2]
  generalize ev 128 2 1 f z = a
  grind -lia
theorem sm_put (x : Nat → FZ) (f : Nat → FZ) (m : Nat) (c : FZ) : ∀ n, m < n → sm n (fun k => (if k = m then f m + c else f k) * x k) = sm n (fun k => f k * x k) + c * x m := by
  intro n
  induction n with
  | zero => intro h; omega
  | succ n ih =>
    intro h
    rw [sm_succ, sm_succ]
    by_cases hn : m = n
    · subst hn
      rw [if_pos rfl, sm_congr m (g := fun k => f k * x k) fun i hi => by rw [if_neg (by omega)]]
      generalize sm m (fun k => f k * x k) = a
      generalize f m = b
      generalize x m = d
      grind -lia
    · rw [ih (by omega), if_neg (by omega)]
      generalize sm n (fun k => f k * x k) = a
      generalize f n * x n = b
      generalize c * x m = d
      grind -lia
/-- A place of a polynomial, with a number added. -/
def putZ (f : Nat → FZ) (m : Nat) (c : FZ) (k : Nat) : FZ := if k = m then f m + c else f k
/-- A product under way: i terms of a whole, and j terms of b with the next. -/
def Pp (a b : Nat → FZ) (i j : Nat) (o : Nat → FZ) : Prop := ∀ z : FZ, pz z 128 = -1 →
  e0 z o = sm i (fun p => sm 256 (fun q => a p * b q * x0 z (p + q))) + sm j (fun q => a i * b q * x0 z (i + q)) ∧
  e1 z o = sm i (fun p => sm 256 (fun q => a p * b q * x1 z (p + q))) + sm j (fun q => a i * b q * x1 z (i + q))
theorem Pp.start (a b : Nat → FZ) (o : Nat → FZ) (h : ∀ k, k < 256 → o k = 0) : Pp a b 0 0 o := by
  intro z _
  unfold e0 e1
  rw [sm_zero, sm_zero, sm_zero, sm_zero]
  constructor
  · rw [sm_congr 256 (g := fun _ => 0) fun k hk => by
      rw [h k hk]
      grind -lia, sm_zeros]
    rfl
  · rw [sm_congr 256 (g := fun _ => 0) fun k hk => by
      rw [h k hk]
      grind -lia, sm_zeros]
    rfl
theorem Pp.put {a b o : Nat → FZ} {i j : Nat} (h : Pp a b i j o) (hij : i + j < 256) : Pp a b i (j + 1) (putZ o (i + j) (a i * b j)) := by
  intro z hz
  obtain ⟨h0, h1⟩ := h z hz
  have k0 : e0 z (putZ o (i + j) (a i * b j)) = e0 z o + a i * b j * x0 z (i + j) := sm_put (x0 z) o (i + j) (a i * b j) 256 hij
  have k1 : e1 z (putZ o (i + j) (a i * b j)) = e1 z o + a i * b j * x1 z (i + j) := sm_put (x1 z) o (i + j) (a i * b j) 256 hij
  rw [k0, k1, h0, h1, sm_succ, sm_succ]
  constructor
  · generalize sm i _ = p
    generalize sm j _ = q
    grind -lia
  · generalize sm i _ = p
    generalize sm j _ = q
    grind -lia
theorem Pp.turn {a b o : Nat → FZ} {i j : Nat} (h : Pp a b i j o) (hi : i < 256) (hj : j < 256) (hij : 256 ≤ i + j) : Pp a b i (j + 1) (putZ o (i + j - 256) (- (a i * b j))) := by
  intro z hz
  obtain ⟨h0, h1⟩ := h z hz
  have k0 : e0 z (putZ o (i + j - 256) (- (a i * b j))) = e0 z o + - (a i * b j) * x0 z (i + j - 256) := sm_put (x0 z) o (i + j - 256) (- (a i * b j)) 256 (by omega)
  have k1 : e1 z (putZ o (i + j - 256) (- (a i * b j))) = e1 z o + - (a i * b j) * x1 z (i + j - 256) := sm_put (x1 z) o (i + j - 256) (- (a i * b j)) 256 (by omega)
  obtain ⟨t0, t1⟩ := x_turn z hz (i + j - 256)
  rw [show i + j - 256 + 256 = i + j by omega] at t0 t1
  rw [k0, k1, h0, h1, sm_succ, sm_succ, t0, t1]
  constructor
  · generalize sm i _ = p
    generalize sm j _ = q
    grind -lia
  · generalize sm i _ = p
    generalize sm j _ = q
    grind -lia
theorem Pp.next {a b o : Nat → FZ} {i : Nat} (h : Pp a b i 256 o) : Pp a b (i + 1) 0 o := by
  intro z hz
  obtain ⟨h0, h1⟩ := h z hz
  constructor
  · rw [h0, sm_succ i, sm_zero]
    generalize sm i _ = p
    generalize sm 256 (fun q => a i * b q * x0 z (i + q)) = q
    clear h0 h1 h hz
    grind -lia
  · rw [h1, sm_succ i, sm_zero]
    generalize sm i _ = p
    generalize sm 256 (fun q => a i * b q * x1 z (i + q)) = q
    clear h0 h1 h hz
    grind -lia
theorem e_prod (a b : Nat → FZ) (z : FZ) : sm 256 (fun p => sm 256 (fun q => a p * b q * x0 z (p + q))) = e0 z a * e0 z b + z * (e1 z a * e1 z b) ∧
    sm 256 (fun p => sm 256 (fun q => a p * b q * x1 z (p + q))) = e0 z a * e1 z b + e1 z a * e0 z b := by
  have inner0 : ∀ p, sm 256 (fun q => a p * b q * x0 z (p + q)) = a p * x0 z p * e0 z b + z * (a p * x1 z p * e1 z b) := by
    intro p
    unfold e0 e1
    rw [← sm_mul, ← sm_mul, ← sm_mul, ← sm_add]
    refine sm_congr 256 fun q _ => ?_
    rw [(x_add z p q).1]
    grind -lia
  have inner1 : ∀ p, sm 256 (fun q => a p * b q * x1 z (p + q)) = a p * x0 z p * e1 z b + a p * x1 z p * e0 z b := by
    intro p
    unfold e0 e1
    rw [← sm_mul, ← sm_mul, ← sm_add]
    refine sm_congr 256 fun q _ => ?_
    rw [(x_add z p q).2]
    grind -lia
  constructor
  · rw [sm_congr 256 fun p _ => inner0 p, sm_add, sm_mul]
    have h1 : sm 256 (fun p => a p * x0 z p * e0 z b) = e0 z a * e0 z b := by
      rw [sm_congr 256 (g := fun p => e0 z b * (a p * x0 z p)) fun p _ => by grind -lia, sm_mul]
      show e0 z b * e0 z a = _
      grind -lia
    have h2 : sm 256 (fun p => a p * x1 z p * e1 z b) = e1 z a * e1 z b := by
      rw [sm_congr 256 (g := fun p => e1 z b * (a p * x1 z p)) fun p _ => by grind -lia, sm_mul]
      show e1 z b * e1 z a = _
      grind -lia
    rw [h1, h2]
  · rw [sm_congr 256 fun p _ => inner1 p, sm_add]
    have h1 : sm 256 (fun p => a p * x0 z p * e1 z b) = e0 z a * e1 z b := by
      rw [sm_congr 256 (g := fun p => e1 z b * (a p * x0 z p)) fun p _ => by grind -lia, sm_mul]
      show e1 z b * e0 z a = _
      grind -lia
    have h2 : sm 256 (fun p => a p * x1 z p * e0 z b) = e1 z a * e0 z b := by
      rw [sm_congr 256 (g := fun p => e0 z b * (a p * x1 z p)) fun p _ => by grind -lia, sm_mul]
      show e0 z b * e1 z a = _
      grind -lia
    rw [h1, h2]
/-- The product of two, factor by factor. -/
def tm (a b : Nat → FZ) (p : Nat) : FZ := if p % 2 = 0 then a p * b p + a (p + 1) * b (p + 1) * zr (p / 2) else a (p - 1) * b p + a p * b (p - 1)
/-- The product of two polynomials. -/
def pd (a b : Nat → FZ) (p : Nat) : FZ := inw (tm (fwd a) (fwd b)) p
theorem fwd_even (f : Nat → FZ) (p : Nat) (h : p % 2 = 0) : fwd f p = e0 (zr (p / 2)) f := by
  rw [e0_ev]
  unfold fwd
  rw [h]
theorem fwd_odd (f : Nat → FZ) (p : Nat) (h : p % 2 = 1) : fwd f p = e1 (zr (p / 2)) f := by
  rw [e1_ev]
  unfold fwd
  rw [h]
theorem fwd_pd (a b : Nat → FZ) (p : Nat) (hp : p < 256) : fwd (pd a b) p = tm (fwd a) (fwd b) p := fwd_inw (tm (fwd a) (fwd b)) p hp
theorem Pp.fwd {a b o : Nat → FZ} (h : Pp a b 256 0 o) (p : Nat) (hp : p < 256) : fwd o p = tm (fwd a) (fwd b) p := by
  have hz := zr_pow ⟨p / 2, by omega⟩
  simp only at hz
  obtain ⟨h0, h1⟩ := h _ hz
  rw [sm_zero, (e_prod a b _).1] at h0
  rw [sm_zero, (e_prod a b _).2] at h1
  unfold tm
  by_cases hq : p % 2 = 0
  · rw [if_pos hq, fwd_even o p hq, fwd_even a p hq, fwd_even b p hq, fwd_odd a (p + 1) (by omega), fwd_odd b (p + 1) (by omega), show (p + 1) / 2 = p / 2 by omega, h0]
    grind -lia
  · rw [if_neg hq, fwd_odd o p (by omega), fwd_odd a p (by omega), fwd_odd b p (by omega), fwd_even a (p - 1) (by omega), fwd_even b (p - 1) (by omega), show (p - 1) / 2 = p / 2 by omega, h1]
    grind -lia
theorem Pp.done {a b o : Nat → FZ} (h : Pp a b 256 0 o) (p : Nat) (hp : p < 256) : o p = pd a b p :=
  fwd_inj o (pd a b) (fun q hq => by rw [h.fwd q hq, fwd_pd a b q hq]) p hp
/-! ### What follows -/
theorem tm_congr {a a' b b' : Nat → FZ} (ha : ∀ p, p < 256 → a p = a' p) (hb : ∀ p, p < 256 → b p = b' p) (p : Nat) (hp : p < 256) : tm a b p = tm a' b' p := by
  unfold tm
  by_cases hq : p % 2 = 0
  · rw [if_pos hq, if_pos hq, ha p hp, hb p hp, ha (p + 1) (by omega), hb (p + 1) (by omega)]
  · rw [if_neg hq, if_neg hq, ha p hp, hb p hp, ha (p - 1) (by omega), hb (p - 1) (by omega)]
theorem fwd_add (a b : Nat → FZ) (p : Nat) : fwd (fun k => a k + b k) p = fwd a p + fwd b p := by
  unfold fwd ev
  rw [← sm_add]
  exact sm_congr 128 fun s _ => by grind -lia
theorem pd_comm (a b : Nat → FZ) (p : Nat) (hp : p < 256) : pd a b p = pd b a p := by
  refine fwd_inj _ _ (fun q hq => ?_) p hp
  rw [fwd_pd a b q hq, fwd_pd b a q hq]
  unfold tm
  split <;> grind -lia
theorem pd_assoc (a b c : Nat → FZ) (p : Nat) (hp : p < 256) : pd (pd a b) c p = pd a (pd b c) p := by
  refine fwd_inj _ _ (fun q hq => ?_) p hp
  rw [fwd_pd _ c q hq, fwd_pd a _ q hq, tm_congr (fun k hk => fwd_pd a b k hk) (fun _ _ => rfl) q hq, tm_congr (a := fwd a) (fun _ _ => rfl) (fun k hk => fwd_pd b c k hk) q hq]
  unfold tm
  by_cases h : q % 2 = 0
  · rw [if_pos h, if_pos h, if_pos h, if_neg (show ¬ (q + 1) % 2 = 0 by omega), if_pos h, if_neg (show ¬ (q + 1) % 2 = 0 by omega), show q + 1 - 1 = q by omega]
    grind -lia
  · rw [if_neg h, if_neg h, if_neg h, if_pos (show (q - 1) % 2 = 0 by omega), if_neg h, if_pos (show (q - 1) % 2 = 0 by omega), show q - 1 + 1 = q by omega, show (q - 1) / 2 = q / 2 by omega]
    grind -lia
theorem pd_add (a b c : Nat → FZ) (p : Nat) (hp : p < 256) : pd a (fun k => b k + c k) p = pd a b p + pd a c p := by
  refine fwd_inj (pd a (fun k => b k + c k)) (fun k => pd a b k + pd a c k) (fun q hq => ?_) p hp
  rw [fwd_add, fwd_pd a _ q hq, fwd_pd a b q hq, fwd_pd a c q hq]
  unfold tm
  rw [fwd_add, fwd_add, fwd_add]
  split <;> grind -lia
theorem pd_congr {a a' b b' : Nat → FZ} (ha : ∀ p, p < 256 → a p = a' p) (hb : ∀ p, p < 256 → b p = b' p) (p : Nat) (hp : p < 256) : pd a b p = pd a' b' p := by
  refine fwd_inj _ _ (fun q hq => ?_) p hp
  rw [fwd_pd a b q hq, fwd_pd a' b' q hq]
  exact tm_congr (fun k _ => fwd_congr a a' ha k) (fun k _ => fwd_congr b b' hb k) q hq
end Go.Proofs.YtbladcgdbhogcabDoor

/- What follows of the permutation: three steps add up, every step can be taken back, turning and putting elsewhere keep how many bits are 1, noughts stay noughts: plain mathematics. No program's text is named. -/
import Derived.Test.YtkoecgoajbgkgaaDoorKMath5
namespace Go.Proofs.YtkoecgoajbgkgaaDoor
set_option linter.unusedSimpArgs false
set_option linter.unusedVariables false

/-! ### Sums of two states -/
def addS (f g : Nat → Nat) (i : Nat) : Nat := f i ^^^ g i
theorem addS_lt (f g : Nat → Nat) (hf : ∀ i, f i < 18446744073709551616) (hg : ∀ i, g i < 18446744073709551616) (i : Nat) : addS f g i < 18446744073709551616 := xor_lt64 (hf i) (hg i)
theorem xor_four (a b c d : Nat) : a ^^^ b ^^^ (c ^^^ d) = a ^^^ c ^^^ (b ^^^ d) := by
  apply Nat.eq_of_testBit_eq
  intro i
  simp only [Nat.testBit_xor]
  cases a.testBit i <;> cases b.testBit i <;> cases c.testBit i <;> cases d.testBit i <;> rfl
theorem turnN_add (x y n : Nat) (hx : x < 18446744073709551616) (hy : y < 18446744073709551616) (hn : n < 64) : turnN (x ^^^ y) n = turnN x n ^^^ turnN y n := by
  refine ext64 (turnN_lt _ _ (xor_lt64 hx hy) hn) (xor_lt64 (turnN_lt _ _ hx hn) (turnN_lt _ _ hy hn)) fun z hz => ?_
  rw [turnN_bit _ _ _ (xor_lt64 hx hy) hn hz, bt_xor, bt_xor, turnN_bit _ _ _ hx hn hz, turnN_bit _ _ _ hy hn hz]
theorem colN_add (f g : Nat → Nat) (x : Nat) : colN (addS f g) x = colN f x ^^^ colN g x := by
  unfold colN addS
  apply Nat.eq_of_testBit_eq
  intro i
  simp only [Nat.testBit_xor]
  generalize (f x).testBit i = a1
  generalize (f (x + 5)).testBit i = a2
  generalize (f (x + 10)).testBit i = a3
  generalize (f (x + 15)).testBit i = a4
  generalize (f (x + 20)).testBit i = a5
  generalize (g x).testBit i = b1
  generalize (g (x + 5)).testBit i = b2
  generalize (g (x + 10)).testBit i = b3
  generalize (g (x + 15)).testBit i = b4
  generalize (g (x + 20)).testBit i = b5
  revert a1 a2 a3 a4 a5 b1 b2 b3 b4 b5
  decide +kernel
theorem thL_add (f g : Nat → Nat) (hf : ∀ i, f i < 18446744073709551616) (hg : ∀ i, g i < 18446744073709551616) (k : Nat) : thL (addS f g) k = thL f k ^^^ thL g k := by
  unfold thL
  rw [colN_add, colN_add, turnN_add _ _ _ (colN_lt f hf _) (colN_lt g hg _) (by decide)]
  unfold addS
  rw [xor_four (f k), xor_four (f k ^^^ _)]
theorem rhL_add (f g : Nat → Nat) (hf : ∀ i, f i < 18446744073709551616) (hg : ∀ i, g i < 18446744073709551616) (k : Nat) : rhL (addS f g) k = rhL f k ^^^ rhL g k := by
  unfold rhL
  split
  · rfl
  · exact turnN_add _ _ _ (hf _) (hg _) (rhBy_lt _)
theorem piF_add (f g : Nat → Nat) (k : Nat) : piF (addS f g) k = piF f k ^^^ piF g k := rfl

/-! ### Noughts -/
theorem turnN_zero (n : Nat) : turnN 0 n = 0 := by
  unfold turnN rotN
  split <;> simp
theorem thL_zero (f : Nat → Nat) (h : ∀ i, f i = 0) (k : Nat) : thL f k = 0 := by
  unfold thL colN
  simp [h, turnN_zero]
theorem rhL_zero (f : Nat → Nat) (h : ∀ i, f i = 0) (k : Nat) : rhL f k = 0 := by
  unfold rhL
  simp [h, turnN_zero]
theorem piF_zero (f : Nat → Nat) (h : ∀ i, f i = 0) (k : Nat) : piF f k = 0 := h _
theorem chL_zero (f : Nat → Nat) (h : ∀ i, f i = 0) (k : Nat) : chL f k = 0 := by
  unfold chL
  simp [h]
theorem noughts_kept (k : Nat) : chL (piF (rhL (thL fun _ => 0))) k = 0 := chL_zero _ (piF_zero _ (rhL_zero _ (thL_zero _ fun _ => rfl))) k
theorem rdL_noughts (i : Nat) : rdL (fun _ => 0) i = ioK (fun _ => 0) i := by
  unfold rdL
  congr 1
  funext k
  exact noughts_kept k

/-! ### Every step can be taken back -/
theorem tri_zero : ∀ a b c d e : Bool, a = (b ^^ e) → b = (c ^^ a) → c = (d ^^ b) → d = (e ^^ c) → e = (a ^^ d) → a = false := by decide
theorem double_step (E : Nat → Nat → Bool) (s t : Nat) (h : ∀ x z, E x z = (E (x + 4 * s) z ^^ E (x + s) (z + 63 * t))) :
    ∀ x z, E x z = (E (x + 4 * (2 * s)) z ^^ E (x + 2 * s) (z + 63 * (2 * t))) := by
  intro x z
  rw [h x z, h (x + 4 * s) z, h (x + s) (z + 63 * t)]
  rw [show x + 4 * s + 4 * s = x + 4 * (2 * s) by omega, show x + s + 4 * s = x + 4 * s + s by omega, show x + s + s = x + 2 * s by omega, show z + 63 * t + 63 * t = z + 63 * (2 * t) by omega]
  generalize E (x + 4 * s + s) (z + 63 * t) = a
  generalize E (x + 4 * (2 * s)) z = b
  generalize E (x + 2 * s) (z + 63 * (2 * t)) = c
  cases a <;> cases b <;> cases c <;> rfl
theorem wheel_zero (E : Nat → Nat → Bool) (h5 : ∀ x z, E (x % 5) z = E x z) (h64 : ∀ x z, E x (z % 64) = E x z)
    (h : ∀ x z, E x z = (E (x + 4) z ^^ E (x + 1) (z + 63))) (x z : Nat) : E x z = false := by
  have r1 := double_step E 1 1 h
  have r2 := double_step E 2 2 r1
  have r3 := double_step E 4 4 r2
  have r4 := double_step E 8 8 r3
  have r5 := double_step E 16 16 r4
  have r6 := double_step E 32 32 r5
  have r : ∀ x z, E x z = (E (x + 1) z ^^ E (x + 4) z) := by
    intro x z
    rw [r6 x z]
    rw [← h5 (x + 4 * (2 * 32)) z, ← h5 (x + 1) z, ← h5 (x + 4) z, ← h64 (x + 2 * 32), ← h5 (x + 2 * 32)]
    rw [show (x + 4 * (2 * 32)) % 5 = (x + 1) % 5 by omega, show (x + 2 * 32) % 5 = (x + 4) % 5 by omega, show (z + 63 * (2 * 32)) % 64 = z % 64 by omega, h64]
  have p : ∀ n, E (x + (n + 5)) z = E (x + n) z := fun n => by rw [← h5 (x + (n + 5)), ← h5 (x + n), show (x + (n + 5)) % 5 = (x + n) % 5 by omega]
  have q0 := r x z
  have q1 := r (x + 1) z
  have q2 := r (x + 2) z
  have q3 := r (x + 3) z
  have q4 := r (x + 4) z
  have p0 := p 0
  have p1 := p 1
  have p2 := p 2
  have p3 := p 3
  simp only [Nat.add_assoc] at q0 q1 q2 q3 q4
  simp only [show 1 + 4 = 0 + 5 from rfl, show 2 + 4 = 1 + 5 from rfl, show 3 + 4 = 2 + 5 from rfl, show 4 + 4 = 3 + 5 from rfl, show 4 + 1 = 0 + 5 from rfl, show 1 + 1 = 2 from rfl, show 2 + 1 = 3 from rfl, show 3 + 1 = 4 from rfl, p0, p1, p2, p3, Nat.add_zero] at q0 q1 q2 q3 q4
  exact tri_zero _ _ _ _ _ q0 q1 q2 q3 q4
theorem xor_zero_eq {a b : Nat} (h : a ^^^ b = 0) : a = b := by
  apply Nat.eq_of_testBit_eq
  intro i
  have := congrArg (fun n => n.testBit i) h
  simp only [Nat.testBit_xor, Nat.zero_testBit] at this
  cases ha : a.testBit i <;> cases hb : b.testBit i <;> simp_all
theorem thL_ker (f : Nat → Nat) (hf : ∀ i, f i < 18446744073709551616) (h : ∀ k, k < 25 → thL f k = 0) (k : Nat) (hk : k < 25) : f k = 0 := by
  have h1 : ∀ k, k < 25 → f k = colN f ((k % 5 + 4) % 5) ^^^ turnN (colN f ((k % 5 + 1) % 5)) 1 := fun k hk => by
    have := h k hk
    unfold thL at this
    rw [Nat.xor_assoc] at this
    exact xor_zero_eq this
  have h2 : ∀ x, x < 5 → colN f x = colN f ((x + 4) % 5) ^^^ turnN (colN f ((x + 1) % 5)) 1 := fun x hx => by
    have e0 := h1 x (by omega)
    have e1 := h1 (x + 5) (by omega)
    have e2 := h1 (x + 10) (by omega)
    have e3 := h1 (x + 15) (by omega)
    have e4 := h1 (x + 20) (by omega)
    rw [show x % 5 = x by omega] at e0
    rw [show (x + 5) % 5 = x by omega] at e1
    rw [show (x + 10) % 5 = x by omega] at e2
    rw [show (x + 15) % 5 = x by omega] at e3
    rw [show (x + 20) % 5 = x by omega] at e4
    generalize hD : colN f ((x + 4) % 5) ^^^ turnN (colN f ((x + 1) % 5)) 1 = D at *
    unfold colN
    rw [e0, e1, e2, e3, e4]
    simp
  have hE := wheel_zero (fun x z => (colN f (x % 5)).testBit (z % 64)) (fun x z => by simp) (fun x z => by simp) (fun x z => by
    have := h2 (x % 5) (by omega)
    show (colN f (x % 5)).testBit (z % 64) = ((colN f ((x + 4) % 5)).testBit (z % 64) ^^ (colN f ((x + 1) % 5)).testBit ((z + 63) % 64))
    conv => lhs; rw [this]
    rw [Nat.testBit_xor, bt_test (turnN _ _), turnN_bit _ _ _ (colN_lt f hf _) (by decide) (by omega), ← bt_test]
    rw [show (x % 5 + 4) % 5 = (x + 4) % 5 by omega, show (x % 5 + 1) % 5 = (x + 1) % 5 by omega, show (z % 64 + 64 - 1) % 64 = (z + 63) % 64 by omega])
  have hC : ∀ x, x < 5 → colN f x = 0 := fun x hx => by
    refine ext64 (colN_lt f hf x) (by decide) fun z hz => ?_
    have : (colN f (x % 5)).testBit (z % 64) = false := hE x z
    rw [show x % 5 = x by omega, show z % 64 = z by omega] at this
    rw [bt_of, this]
    unfold bt
    simp
  rw [h1 k hk, hC _ (by omega), hC _ (by omega), turnN_zero]
  rfl
theorem thL_inj (f g : Nat → Nat) (hf : ∀ i, f i < 18446744073709551616) (hg : ∀ i, g i < 18446744073709551616) (h : ∀ k, k < 25 → thL f k = thL g k) (k : Nat) (hk : k < 25) : f k = g k := by
  refine xor_zero_eq (thL_ker (addS f g) (addS_lt f g hf hg) (fun j hj => ?_) k hk)
  rw [thL_add f g hf hg, h j hj, Nat.xor_self]
theorem turnN_inj {x y n : Nat} (hx : x < 18446744073709551616) (hy : y < 18446744073709551616) (hn : n < 64) (h : turnN x n = turnN y n) : x = y := by
  refine ext64 hx hy fun z hz => ?_
  have e1 := turnN_bit x n ((z + n) % 64) hx hn (by omega)
  have e2 := turnN_bit y n ((z + n) % 64) hy hn (by omega)
  rw [show ((z + n) % 64 + 64 - n) % 64 = z by omega] at e1 e2
  rw [← e1, ← e2, h]
theorem rhL_inj (f g : Nat → Nat) (hf : ∀ i, f i < 18446744073709551616) (hg : ∀ i, g i < 18446744073709551616) (h : ∀ k, k < 25 → rhL f k = rhL g k) (k : Nat) (hk : k < 25) : f k = g k := by
  have := h k hk
  unfold rhL at this
  by_cases e : k = 0
  · subst e; simpa using this
  · rw [if_neg e, if_neg e] at this
    exact turnN_inj (hf k) (hg k) (rhBy_lt _) this
theorem pi_back : ∀ j, j < 25 → ((j / 5 + 3 * ((2 * (j % 5) + 3 * (j / 5)) % 5)) % 5 = j % 5) := by decide
theorem piF_inj (f g : Nat → Nat) (h : ∀ k, k < 25 → piF f k = piF g k) (k : Nat) (hk : k < 25) : f k = g k := by
  have := h (k / 5 + 5 * ((2 * (k % 5) + 3 * (k / 5)) % 5)) (by omega)
  unfold piF at this
  have hb := pi_back k hk
  rw [show (k / 5 + 5 * ((2 * (k % 5) + 3 * (k / 5)) % 5)) % 5 = k / 5 by omega, show (k / 5 + 5 * ((2 * (k % 5) + 3 * (k / 5)) % 5)) / 5 = (2 * (k % 5) + 3 * (k / 5)) % 5 by omega, hb, show k % 5 + 5 * (k / 5) = k by omega] at this
  exact this
theorem chi_five : ∀ a0 a1 a2 a3 a4 b0 b1 b2 b3 b4 : Bool, (a0 ^^ (a2 ^^ (a2 && a1))) = (b0 ^^ (b2 ^^ (b2 && b1))) → (a1 ^^ (a3 ^^ (a3 && a2))) = (b1 ^^ (b3 ^^ (b3 && b2))) → (a2 ^^ (a4 ^^ (a4 && a3))) = (b2 ^^ (b4 ^^ (b4 && b3))) →
    (a3 ^^ (a0 ^^ (a0 && a4))) = (b3 ^^ (b0 ^^ (b0 && b4))) → (a4 ^^ (a1 ^^ (a1 && a0))) = (b4 ^^ (b1 ^^ (b1 && b0))) → a0 = b0 ∧ a1 = b1 ∧ a2 = b2 ∧ a3 = b3 ∧ a4 = b4 := by decide +kernel
theorem chL_test (f : Nat → Nat) (k z : Nat) : (chL f k).testBit z = ((f k).testBit z ^^ ((f (k - k % 5 + (k % 5 + 2) % 5)).testBit z ^^ ((f (k - k % 5 + (k % 5 + 2) % 5)).testBit z && (f (k - k % 5 + (k % 5 + 1) % 5)).testBit z))) := by
  unfold chL
  rw [sub_and, Nat.testBit_xor, Nat.testBit_xor, Nat.testBit_and]
theorem chL_inj (f g : Nat → Nat) (h : ∀ k, k < 25 → chL f k = chL g k) (k : Nat) (hk : k < 25) : f k = g k := by
  apply Nat.eq_of_testBit_eq
  intro z
  obtain ⟨y, hy⟩ : ∃ y, y = k / 5 := ⟨_, rfl⟩
  have e : ∀ x, x < 5 → (chL f (x + 5 * y)).testBit z = (chL g (x + 5 * y)).testBit z := fun x hx => by rw [h (x + 5 * y) (by omega)]
  have t : ∀ (u : Nat → Nat) x, x < 5 → (chL u (x + 5 * y)).testBit z = ((u (x + 5 * y)).testBit z ^^ ((u ((x + 2) % 5 + 5 * y)).testBit z ^^ ((u ((x + 2) % 5 + 5 * y)).testBit z && (u ((x + 1) % 5 + 5 * y)).testBit z))) := fun u x hx => by
    rw [chL_test, show x + 5 * y - (x + 5 * y) % 5 + ((x + 5 * y) % 5 + 2) % 5 = (x + 2) % 5 + 5 * y by omega, show x + 5 * y - (x + 5 * y) % 5 + ((x + 5 * y) % 5 + 1) % 5 = (x + 1) % 5 + 5 * y by omega]
  have e0 := e 0 (by decide)
  have e1 := e 1 (by decide)
  have e2 := e 2 (by decide)
  have e3 := e 3 (by decide)
  have e4 := e 4 (by decide)
  rw [t f 0 (by decide), t g 0 (by decide)] at e0
  rw [t f 1 (by decide), t g 1 (by decide)] at e1
  rw [t f 2 (by decide), t g 2 (by decide)] at e2
  rw [t f 3 (by decide), t g 3 (by decide)] at e3
  rw [t f 4 (by decide), t g 4 (by decide)] at e4
  obtain ⟨r0, r1, r2, r3, r4⟩ := chi_five _ _ _ _ _ _ _ _ _ _ e0 e1 e2 e3 e4
  have hx : k % 5 = 0 ∨ k % 5 = 1 ∨ k % 5 = 2 ∨ k % 5 = 3 ∨ k % 5 = 4 := by omega
  rcases hx with hx | hx | hx | hx | hx
  · rw [show k = 0 + 5 * y by omega]; exact r0
  · rw [show k = 1 + 5 * y by omega]; exact r1
  · rw [show k = 2 + 5 * y by omega]; exact r2
  · rw [show k = 3 + 5 * y by omega]; exact r3
  · rw [show k = 4 + 5 * y by omega]; exact r4
theorem ioK_inj (f g : Nat → Nat) (i : Nat) (h : ∀ k, k < 25 → ioK f i k = ioK g i k) (k : Nat) (hk : k < 25) : f k = g k := by
  have := h k hk
  unfold ioK at this
  by_cases e : k = 0
  · subst e
    simp only [if_true] at this
    refine xor_zero_eq ?_
    have h2 := congrArg (fun n => n ^^^ (g 0 ^^^ kst.getD i 0)) this
    simp only [Nat.xor_self] at h2
    rwa [xor_four, Nat.xor_self, Nat.xor_zero] at h2
  · rwa [if_neg e, if_neg e] at this
theorem rdL_inj (f g : Nat → Nat) (hf : ∀ i, f i < 18446744073709551616) (hg : ∀ i, g i < 18446744073709551616) (i : Nat) (h : ∀ k, k < 25 → rdL f i k = rdL g i k) (k : Nat) (hk : k < 25) : f k = g k :=
  thL_inj f g hf hg (fun _ h1 => rhL_inj _ _ (thL_lt f hf) (thL_lt g hg) (fun _ h2 => piF_inj _ _ (fun _ h3 => chL_inj _ _ (fun _ h4 => ioK_inj _ _ i h _ h4) _ h3) _ h2) _ h1) k hk
theorem rdsL_inj (f g : Nat → Nat) (hf : ∀ i, f i < 18446744073709551616) (hg : ∀ i, g i < 18446744073709551616) : ∀ n, n ≤ 24 → (∀ k, k < 25 → rdsL f n k = rdsL g n k) → ∀ k, k < 25 → f k = g k
  | 0, _, h => h
  | n + 1, hn, h => rdsL_inj f g hf hg n (by omega) fun k hk => rdL_inj _ _ (rdsL_lt f hf n (by omega)) (rdsL_lt g hg n (by omega)) n h k hk
/-- All rounds of two states are the same just if they are. -/
theorem same_just (f g : Nat → Nat) (hf : ∀ i, f i < 18446744073709551616) (hg : ∀ i, g i < 18446744073709551616) : (stL (rdsL f 24) = stL (rdsL g 24)) ↔ stL f = stL g := by
  refine ⟨fun h => stL_congr fun k hk => rdsL_inj f g hf hg 24 (Nat.le_refl _) (fun j hj => stL_inj h j hj) k hk, fun h => ?_⟩
  refine stL_congr fun k hk => ?_
  rw [rdsL_eq f hf 24 (Nat.le_refl _) k hk, rdsL_eq g hg 24 (Nat.le_refl _) k hk]
  exact rdsF_congr (fun j hj => stL_inj h j hj) 24 k hk

/-! ### How many bits are 1 -/
def pc : Nat → Nat
  | 0 => 0
  | n + 1 => (n + 1) % 2 + pc ((n + 1) / 2)
decreasing_by omega
theorem pc_zero : pc 0 = 0 := by unfold pc; rfl
theorem pc_step (n : Nat) : pc n = n % 2 + pc (n / 2) := by
  cases n with
  | zero => simp [pc_zero]
  | succ n => rw [pc]
theorem pc_join (a b : Nat) : ∀ n, b < 2 ^ n → ∀ b', b' = b → pc (2 ^ n * a + b') = pc a + pc b' := by
  intro n
  induction n generalizing b with
  | zero =>
    intro h b' e
    have : b' = 0 := by simp at h; omega
    subst this
    simp [pc_zero]
  | succ n ih =>
    intro h b' e
    subst e
    rw [pc_step (2 ^ (n + 1) * a + b'), pc_step b']
    have e1 : (2 ^ (n + 1) * a + b') % 2 = b' % 2 := by
      rw [Nat.pow_succ, Nat.mul_comm (2 ^ n) 2, Nat.mul_assoc, Nat.mul_add_mod]
    have e2 : (2 ^ (n + 1) * a + b') / 2 = 2 ^ n * a + b' / 2 := by
      rw [Nat.pow_succ, Nat.mul_comm (2 ^ n) 2, Nat.mul_assoc, Nat.mul_add_div (by decide)]
    rw [e1, e2, ih (b' / 2) (by rw [Nat.pow_succ] at h; omega) _ rfl]
    omega
theorem pc_turn (x n : Nat) (hx : x < 18446744073709551616) (hn : n < 64) : pc (turnN x n) = pc x := by
  unfold turnN
  split
  · rfl
  · have h64 : (18446744073709551616 : Nat) = 2 ^ n * 2 ^ (64 - n) := by rw [← Nat.pow_add, show n + (64 - n) = 64 by omega]
    have hB : x / 2 ^ (64 - n) < 2 ^ n := by
      refine Nat.div_lt_of_lt_mul ?_
      rw [Nat.mul_comm, ← h64]
      exact hx
    have e1 : rotN x n = 2 ^ n * (x % 2 ^ (64 - n)) + x / 2 ^ (64 - n) := by
      unfold rotN
      rw [h64, Nat.mul_comm x, Nat.mul_mod_mul_left]
    rw [e1, pc_join _ _ n hB _ rfl]
    have h2 := pc_join (x / 2 ^ (64 - n)) (x % 2 ^ (64 - n)) (64 - n) (Nat.mod_lt _ (Nat.pow_pos (by decide))) _ rfl
    rw [Nat.div_add_mod] at h2
    omega
theorem pc_le (n : Nat) : ∀ x, x < 2 ^ n → pc x ≤ n := by
  induction n with
  | zero => intro x h; have : x = 0 := by simp at h; exact h
            subst this; simp [pc_zero]
  | succ n ih =>
    intro x h
    rw [pc_step]
    have := ih (x / 2) (by rw [Nat.pow_succ] at h; omega)
    omega
/-- How many bits of the first n lanes are 1. -/
def pcs (f : Nat → Nat) : Nat → Nat
  | 0 => 0
  | n + 1 => pcs f n + pc (f n)
theorem pcs_le (f : Nat → Nat) (hf : ∀ i, f i < 18446744073709551616) : ∀ n, pcs f n ≤ 64 * n
  | 0 => by simp [pcs]
  | n + 1 => by
    have h1 := pcs_le f hf n
    have h2 := pc_le 64 (f n) (hf n)
    unfold pcs
    omega
theorem pcs_rho (f : Nat → Nat) (hf : ∀ i, f i < 18446744073709551616) : ∀ n, pcs (rhL f) n = pcs f n
  | 0 => rfl
  | n + 1 => by
    unfold pcs
    rw [pcs_rho f hf n]
    congr 1
    unfold rhL
    split
    · rename_i h; subst h; rfl
    · exact pc_turn _ _ (hf n) (rhBy_lt _)
theorem pcs_pi (f : Nat → Nat) : pcs (piF f) 25 = pcs f 25 := by
  simp only [pcs, piF]
  simp only [Nat.reduceMod, Nat.reduceDiv, Nat.reduceMul, Nat.reduceAdd, Nat.mul_zero, Nat.add_zero, Nat.zero_add]
  omega
end Go.Proofs.YtkoecgoajbgkgaaDoor

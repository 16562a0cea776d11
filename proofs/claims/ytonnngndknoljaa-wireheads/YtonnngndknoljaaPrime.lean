/- Primes, Fermat's little theorem, and a test of primes by powers: plain mathematics. No program's text is named. -/
import Derived.KernelRfl
namespace Go.Proofs.Ytonnngndknoljaa
set_option linter.unusedSimpArgs false
set_option linter.unusedVariables false

def Pr (p : Nat) : Prop := 1 < p ∧ ∀ d, d ∣ p → d = 1 ∨ d = p
theorem Pr.coprime {p a : Nat} (hp : Pr p) (h : ¬ p ∣ a) : Nat.Coprime p a := by
  rcases hp.2 _ (Nat.gcd_dvd_left p a) with h1 | h1
  · exact h1
  · exact absurd (h1 ▸ Nat.gcd_dvd_right p a) h
theorem Pr.dvd_mul {p a b : Nat} (hp : Pr p) (h : p ∣ a * b) : p ∣ a ∨ p ∣ b := by
  by_cases ha : p ∣ a
  · exact .inl ha
  · exact .inr ((hp.coprime ha).dvd_of_dvd_mul_left h)
/-- Every number above 1 has a prime that divides it. -/
theorem pr_divides : ∀ n, 1 < n → ∃ q, Pr q ∧ q ∣ n := by
  intro n
  induction n using Nat.strongRecOn with
  | _ n ih =>
    intro hn
    by_cases h : Pr n
    · exact ⟨n, h, Nat.dvd_refl n⟩
    · have : ∃ d, d ∣ n ∧ d ≠ 1 ∧ d ≠ n := Classical.byContradiction fun hc => h ⟨hn, fun d hd => by
        by_cases h1 : d = 1
        · exact .inl h1
        · by_cases h2 : d = n
          · exact .inr h2
          · exact absurd ⟨d, hd, h1, h2⟩ hc⟩
      obtain ⟨d, hd, h1, h2⟩ := this
      have hle := Nat.le_of_dvd (by omega) hd
      have h0 : d ≠ 0 := by
        intro e
        subst e
        have := Nat.eq_zero_of_zero_dvd hd
        omega
      obtain ⟨q, hq, hqd⟩ := ih d (by omega) (by omega)
      exact ⟨q, hq, Nat.dvd_trans hqd hd⟩
/-- What is no prime has one that divides it whose square is not greater. -/
theorem pr_small (n : Nat) (hn : 1 < n) (h : ¬ Pr n) : ∃ q, Pr q ∧ q ∣ n ∧ q * q ≤ n := by
  have : ∃ d, d ∣ n ∧ d ≠ 1 ∧ d ≠ n := Classical.byContradiction fun hc => h ⟨hn, fun d hd => by
    by_cases h1 : d = 1
    · exact .inl h1
    · by_cases h2 : d = n
      · exact .inr h2
      · exact absurd ⟨d, hd, h1, h2⟩ hc⟩
  obtain ⟨d, ⟨e, he⟩, h1, h2⟩ := this
  have hd0 : d ≠ 0 := by intro z; subst z; simp at he; omega
  have he0 : e ≠ 0 := by intro z; subst z; simp at he; omega
  have he1 : e ≠ 1 := by intro z; subst z; simp at he; omega
  rcases Nat.le_total d e with hle | hle
  · obtain ⟨q, hq, hqd⟩ := pr_divides d (by omega)
    have hl := Nat.le_of_dvd (by omega) hqd
    refine ⟨q, hq, Nat.dvd_trans hqd ⟨e, he⟩, ?_⟩
    rw [he]
    exact Nat.mul_le_mul hl (by omega)
  · obtain ⟨q, hq, hqe⟩ := pr_divides e (by omega)
    have hl := Nat.le_of_dvd (by omega) hqe
    refine ⟨q, hq, Nat.dvd_trans hqe ⟨d, by rw [he, Nat.mul_comm]⟩, ?_⟩
    rw [he]
    exact Nat.mul_le_mul (by omega) hl

/-! ### Binomials -/
def bc : Nat → Nat → Nat
  | _, 0 => 1
  | 0, _ + 1 => 0
  | n + 1, k + 1 => bc n k + bc n (k + 1)
theorem bc_zero (n : Nat) : bc n 0 = 1 := by cases n <;> rfl
theorem bc_step (n k : Nat) : bc (n + 1) (k + 1) = bc n k + bc n (k + 1) := rfl
theorem bc_above : ∀ n k, n < k → bc n k = 0
  | 0, 0, h => by omega
  | 0, k + 1, _ => rfl
  | n + 1, 0, h => by omega
  | n + 1, k + 1, h => by rw [bc_step, bc_above n k (by omega), bc_above n (k + 1) (by omega)]
theorem bc_self : ∀ n, bc n n = 1
  | 0 => rfl
  | n + 1 => by rw [bc_step, bc_self n, bc_above n (n + 1) (by omega)]
theorem bc_absorb : ∀ n k, (k + 1) * bc (n + 1) (k + 1) = (n + 1) * bc n k
  | 0, 0 => rfl
  | 0, k + 1 => by rw [bc_step]; simp [bc]
  | n + 1, 0 => by
    have ih := bc_absorb n 0
    rw [bc_zero] at ih ⊢
    rw [bc_step (n + 1) 0, bc_zero]
    omega
  | n + 1, k + 1 => by
    have h1 := bc_absorb n k
    have h2 := bc_absorb n (k + 1)
    rw [bc_step (n + 1) (k + 1), Nat.mul_add, Nat.add_mul (k + 1) 1, h1, h2, bc_step n k]
    have h3 := bc_step n k
    generalize bc n k = x at *
    generalize bc n (k + 1) = y at *
    simp only [Nat.one_mul, Nat.add_mul, Nat.mul_add] at *
    omega
/-- Σ over k below m. -/
def bsum (n a : Nat) : Nat → Nat
  | 0 => 0
  | m + 1 => bsum n a m + bc n m * a ^ m
theorem bsum_step (n a : Nat) : ∀ m, bsum (n + 1) a (m + 1) = bsum n a (m + 1) + a * bsum n a m
  | 0 => by simp [bsum, bc_zero]
  | m + 1 => by
    have ih := bsum_step n a m
    show bsum (n + 1) a (m + 1) + bc (n + 1) (m + 1) * a ^ (m + 1) = (bsum n a (m + 1) + bc n (m + 1) * a ^ (m + 1)) + a * (bsum n a m + bc n m * a ^ m)
    rw [ih, bc_step, Nat.pow_succ]
    grind
theorem bsum_past (n a : Nat) : bsum n a (n + 2) = bsum n a (n + 1) := by
  show bsum n a (n + 1) + bc n (n + 1) * a ^ (n + 1) = _
  rw [bc_above n (n + 1) (by omega)]
  omega
theorem binom (a : Nat) : ∀ n, (a + 1) ^ n = bsum n a (n + 1)
  | 0 => by simp [bsum, bc]
  | n + 1 => by
    rw [bsum_step, bsum_past, ← binom a n, Nat.pow_succ]
    grind
theorem bc_dvd {p : Nat} (hp : Pr p) (k : Nat) (h0 : 0 < k) (hk : k < p) : p ∣ bc p k := by
  obtain ⟨n, rfl⟩ : ∃ n, p = n + 1 := ⟨p - 1, by have := hp.1; omega⟩
  obtain ⟨j, rfl⟩ : ∃ j, k = j + 1 := ⟨k - 1, by omega⟩
  have h := bc_absorb n j
  have hd : (n + 1) ∣ (j + 1) * bc (n + 1) (j + 1) := ⟨_, h⟩
  rcases hp.dvd_mul hd with h1 | h1
  · have := Nat.le_of_dvd (by omega) h1
    omega
  · exact h1
theorem bsum_mod {p : Nat} (hp : Pr p) (a : Nat) : ∀ m, m < p → bsum p a (m + 1) % p = 1
  | 0, _ => by
    have := hp.1
    simp [bsum, bc_zero, Nat.mod_eq_of_lt this]
  | m + 1, h => by
    show (bsum p a (m + 1) + bc p (m + 1) * a ^ (m + 1)) % p = 1
    obtain ⟨c, hc⟩ := bc_dvd hp (m + 1) (by omega) h
    rw [hc, Nat.mul_assoc, Nat.add_mul_mod_self_left]
    exact bsum_mod hp a m (by omega)
theorem fermat_self {p : Nat} (hp : Pr p) : ∀ a, a ^ p % p = a % p
  | 0 => by
    have := hp.1
    rw [Nat.zero_pow (by omega)]
  | a + 1 => by
    have hp1 := hp.1
    rw [binom]
    show (bsum p a p + bc p p * a ^ p) % p = _
    obtain ⟨m, hm⟩ : ∃ m, p = m + 1 := ⟨p - 1, by omega⟩
    have h1 : bsum p a p % p = 1 := by
      have := bsum_mod hp a m (by omega)
      rw [← hm] at this
      exact this
    rw [bc_self, Nat.one_mul, Nat.add_mod, h1, fermat_self hp a, ← Nat.add_mod_mod, Nat.add_comm]
    simp
/-- Fermat's little theorem. -/
theorem fermat {p : Nat} (hp : Pr p) (a : Nat) (ha : ¬ p ∣ a) : a ^ (p - 1) % p = 1 := by
  have hp1 := hp.1
  have h := fermat_self hp a
  have e : a ^ p = a * a ^ (p - 1) := by
    rw [Nat.mul_comm, ← Nat.pow_succ]
    congr 1
    omega
  have ha0 : 0 < a := Nat.pos_of_ne_zero fun h0 => ha (by rw [h0]; exact Nat.dvd_zero p)
  have h1 : 1 ≤ a ^ (p - 1) := Nat.pow_pos ha0
  have hd : p ∣ a * (a ^ (p - 1) - 1) := by
    rw [Nat.mul_sub, Nat.mul_one, ← e]
    exact Nat.dvd_of_mod_eq_zero (Nat.sub_mod_eq_zero_of_mod_eq h)
  rcases hp.dvd_mul hd with h2 | h2
  · exact absurd h2 ha
  · obtain ⟨c, hc⟩ := h2
    have h3 : a ^ (p - 1) = 1 + p * c := by omega
    rw [h3, Nat.add_mul_mod_self_left, Nat.mod_eq_of_lt hp1]

/-! ### Powers, reckoned -/
def pm (n : Nat) : Nat → Nat → Nat → Nat
  | 0, _, _ => 1 % n
  | fuel + 1, b, e => if e % 2 = 1 then b * pm n fuel (b * b % n) (e / 2) % n else pm n fuel (b * b % n) (e / 2)
theorem pm_eq (n : Nat) : ∀ fuel b e, e < 2 ^ fuel → pm n fuel b e = b ^ e % n
  | 0, b, e, h => by
    have : e = 0 := by simp at h; exact h
    subst this
    simp [pm]
  | fuel + 1, b, e, h => by
    have h2 : e / 2 < 2 ^ fuel := by rw [Nat.pow_succ] at h; omega
    have ih := pm_eq n fuel (b * b % n) (e / 2) h2
    have e1 : (b * b % n) ^ (e / 2) % n = (b * b) ^ (e / 2) % n := by rw [← Nat.pow_mod]
    have e2 : (b * b) ^ (e / 2) = b ^ (2 * (e / 2)) := by rw [Nat.pow_mul, Nat.pow_two]
    unfold pm
    rw [ih, e1, e2]
    split
    · rename_i ho
      rw [Nat.mul_mod, Nat.mod_mod, ← Nat.mul_mod, Nat.mul_comm, ← Nat.pow_succ]
      congr 2
      omega
    · congr 2
      omega

/-! ### A test of primes -/
theorem pow_gcd (q h : Nat) (hq : 1 < q) : ∀ a b, h ^ a % q = 1 → h ^ b % q = 1 → h ^ (Nat.gcd a b) % q = 1 := by
  intro a
  induction a using Nat.strongRecOn with
  | _ a ih =>
    intro b ha hb
    by_cases h0 : a = 0
    · subst h0
      rw [Nat.gcd_zero_left]
      exact hb
    · rw [Nat.gcd_rec]
      refine ih (b % a) (Nat.mod_lt _ (by omega)) a ?_ ha
      have e : h ^ b = (h ^ a) ^ (b / a) * h ^ (b % a) := by rw [← Nat.pow_mul, ← Nat.pow_add, Nat.div_add_mod]
      rw [e, Nat.mul_mod, Nat.pow_mod, ha, Nat.one_pow, Nat.mod_eq_of_lt hq, Nat.one_mul, Nat.mod_mod] at hb
      exact hb
/-- What a power tells of a prime that divides n. -/
theorem pock_dvd (n f g q : Nat) (hn : 1 < n) (hf : Pr f) (hfn : f ∣ n - 1) (h1 : g ^ (n - 1) % n = 1) (h2 : Nat.gcd (g ^ ((n - 1) / f) % n + (n - 1)) n = 1) (hq : Pr q) (hqn : q ∣ n) : f ∣ q - 1 := by
  refine Classical.byContradiction fun hc => ?_
  have hq1 := hq.1
  have hcop : Nat.gcd f (q - 1) = 1 := hf.coprime hc
  have m1 : ∀ x, x % n % q = x % q := fun x => Nat.mod_mod_of_dvd x hqn
  have e1 : g ^ (n - 1) % q = 1 := by rw [← m1, h1, Nat.mod_eq_of_lt hq1]
  have hg : ¬ q ∣ g := by
    intro hd
    have : q ∣ g ^ (n - 1) := by
      obtain ⟨k, hk⟩ : ∃ k, n - 1 = k + 1 := ⟨n - 2, by omega⟩
      rw [hk, Nat.pow_succ]
      exact Nat.dvd_trans hd (Nat.dvd_mul_left g (g ^ k))
    have := Nat.mod_eq_zero_of_dvd this
    omega
  have e2 := fermat hq g hg
  have a1 : (g ^ ((n - 1) / f)) ^ f % q = 1 := by
    rw [← Nat.pow_mul, Nat.div_mul_cancel hfn]
    exact e1
  have a2 : (g ^ ((n - 1) / f)) ^ (q - 1) % q = 1 := by
    rw [← Nat.pow_mul, Nat.mul_comm, Nat.pow_mul, Nat.pow_mod, e2, Nat.one_pow, Nat.mod_eq_of_lt hq1]
  have a3 := pow_gcd q _ hq1 f (q - 1) a1 a2
  rw [hcop, Nat.pow_one] at a3
  have hd : q ∣ g ^ ((n - 1) / f) % n + (n - 1) := by
    refine Nat.dvd_of_mod_eq_zero ?_
    rw [Nat.add_mod, m1, a3]
    obtain ⟨c, hc2⟩ := hqn
    have hc0 : 0 < c := Nat.pos_of_ne_zero fun h => by rw [h] at hc2; omega
    obtain ⟨c', rfl⟩ : ∃ c', c = c' + 1 := ⟨c - 1, by omega⟩
    have e3 : n - 1 = (q - 1) + q * c' := by rw [hc2, Nat.mul_add, Nat.mul_one]; omega
    rw [e3, Nat.add_mul_mod_self_left, Nat.mod_eq_of_lt (by omega : q - 1 < q)]
    rw [show 1 + (q - 1) = q by omega, Nat.mod_self]
  have := Nat.dvd_gcd hd hqn
  rw [h2] at this
  have := Nat.le_of_dvd (by decide) this
  omega
theorem pock_one (n f fuel g : Nat) (hn : 1 < n) (hf : Pr f) (hfn : f ∣ n - 1) (hfu : n < 2 ^ fuel) (h1 : pm n fuel g (n - 1) = 1) (h2 : Nat.gcd (pm n fuel g ((n - 1) / f) + (n - 1)) n = 1) (hbig : n < f * f) : Pr n := by
  refine Classical.byContradiction fun hc => ?_
  obtain ⟨q, hq, hqn, hle⟩ := pr_small n hn hc
  have hq1 := hq.1
  rw [pm_eq n fuel g _ (by omega)] at h1
  rw [pm_eq n fuel g _ (Nat.lt_of_le_of_lt (Nat.div_le_self _ _) (by omega))] at h2
  have hd := pock_dvd n f g q hn hf hfn h1 h2 hq hqn
  have hfq := Nat.le_of_dvd (by omega) hd
  have : f * f ≤ q * q := Nat.mul_le_mul (by omega) (by omega)
  omega
theorem pock_two (n f e fuel g : Nat) (hn : 1 < n) (hf : Pr f) (he : Pr e) (hne : f ≠ e) (hfn : f ∣ n - 1) (hen : e ∣ n - 1) (hfu : n < 2 ^ fuel) (h1 : pm n fuel g (n - 1) = 1)
    (h2 : Nat.gcd (pm n fuel g ((n - 1) / f) + (n - 1)) n = 1) (h3 : Nat.gcd (pm n fuel g ((n - 1) / e) + (n - 1)) n = 1) (hbig : n < (f * e) * (f * e)) : Pr n := by
  refine Classical.byContradiction fun hc => ?_
  obtain ⟨q, hq, hqn, hle⟩ := pr_small n hn hc
  have hq1 := hq.1
  rw [pm_eq n fuel g _ (by omega)] at h1
  rw [pm_eq n fuel g _ (Nat.lt_of_le_of_lt (Nat.div_le_self _ _) (by omega))] at h2 h3
  have hd := pock_dvd n f g q hn hf hfn h1 h2 hq hqn
  have hd2 := pock_dvd n e g q hn he hen h1 h3 hq hqn
  have hcop : Nat.Coprime f e := hf.coprime fun h => by
    rcases he.2 f h with h4 | h4
    · have := hf.1; omega
    · exact hne h4
  have hfe := Nat.le_of_dvd (by omega) (hcop.mul_dvd_of_dvd_of_dvd hd hd2)
  have : (f * e) * (f * e) ≤ q * q := Nat.mul_le_mul (by omega) (by omega)
  omega
/-- A small prime, by trial. -/
theorem pr_trial (n : Nat) (hn : 1 < n) (h : (List.range 101).all (fun d => d < 2 || d * d > n || n % d != 0) = true) (hs : n < 10201 := by decide) : Pr n := by
  refine Classical.byContradiction fun hc => ?_
  obtain ⟨q, hq, hqn, hle⟩ := pr_small n hn hc
  have hq1 := hq.1
  have hlt : q < 101 := by
    rcases Nat.lt_or_ge q 101 with h4 | h4
    · exact h4
    · have := Nat.mul_le_mul h4 h4
      omega
  have h5 := List.all_eq_true.1 h q (List.mem_range.2 hlt)
  have h6 := Nat.mod_eq_zero_of_dvd hqn
  simp only [Bool.or_eq_true, decide_eq_true_eq, bne_iff_ne, ne_eq] at h5
  omega
theorem pr_97 : Pr 97 := pr_trial 97 (by decide) (by decide +kernel)
theorem pr_103 : Pr 103 := pr_trial 103 (by decide) (by decide +kernel)
theorem pr_127 : Pr 127 := pr_trial 127 (by decide) (by decide +kernel)
theorem pr_419 : Pr 419 := pr_trial 419 (by decide) (by decide +kernel)
theorem pr_991 : Pr 991 := pr_trial 991 (by decide) (by decide +kernel)
theorem pr_1723 : Pr 1723 := pr_trial 1723 (by decide) (by decide +kernel)
theorem pr_4153 : Pr 4153 := pr_trial 4153 (by decide) (by decide +kernel)
theorem pr_430751 : Pr 430751 :=
  pock_one 430751 1723 19 2 (by decide) pr_1723 (by decide) (by decide) (by decide +kernel) (by decide +kernel) (by decide)
theorem pr_569003 : Pr 569003 :=
  pock_two 569003 419 97 20 2 (by decide) pr_419 pr_97 (by decide) (by decide) (by decide) (by decide) (by decide +kernel) (by decide +kernel) (by decide +kernel) (by decide)
theorem pr_8574133 : Pr 8574133 :=
  pock_two 8574133 991 103 24 2 (by decide) pr_991 pr_103 (by decide) (by decide) (by decide) (by decide) (by decide +kernel) (by decide +kernel) (by decide +kernel) (by decide)
theorem pr_2773320623 : Pr 2773320623 :=
  pock_one 2773320623 569003 32 2 (by decide) pr_569003 (by decide) (by decide) (by decide +kernel) (by decide +kernel) (by decide)
theorem pr_72106336199 : Pr 72106336199 :=
  pock_one 72106336199 2773320623 37 2 (by decide) pr_2773320623 (by decide) (by decide) (by decide +kernel) (by decide +kernel) (by decide)
theorem pr_1919519569386763 : Pr 1919519569386763 :=
  pock_two 1919519569386763 8574133 127 51 2 (by decide) pr_8574133 pr_127 (by decide) (by decide) (by decide) (by decide) (by decide +kernel) (by decide +kernel) (by decide +kernel) (by decide)
theorem pr_31757755568855353 : Pr 31757755568855353 :=
  pock_two 31757755568855353 430751 4153 55 2 (by decide) pr_430751 pr_4153 (by decide) (by decide) (by decide) (by decide) (by decide +kernel) (by decide +kernel) (by decide +kernel) (by decide)
theorem pr_75445702479781427272750846543864801 : Pr 75445702479781427272750846543864801 :=
  pock_two 75445702479781427272750846543864801 1919519569386763 72106336199 116 2 (by decide) pr_1919519569386763 pr_72106336199 (by decide) (by decide) (by decide) (by decide) (by decide +kernel) (by decide +kernel) (by decide +kernel) (by decide)
theorem pr_74058212732561358302231226437062788676166966415465897661863160754340907 : Pr 74058212732561358302231226437062788676166966415465897661863160754340907 :=
  pock_two 74058212732561358302231226437062788676166966415465897661863160754340907 75445702479781427272750846543864801 31757755568855353 236 2 (by decide) pr_75445702479781427272750846543864801 pr_31757755568855353 (by decide) (by decide) (by decide) (by decide) (by decide +kernel) (by decide +kernel) (by decide +kernel) (by decide)
theorem pr_57896044618658097711785492504343953926634992332820282019728792003956564819949 : Pr 57896044618658097711785492504343953926634992332820282019728792003956564819949 :=
  pock_one 57896044618658097711785492504343953926634992332820282019728792003956564819949 74058212732561358302231226437062788676166966415465897661863160754340907 255 2 (by decide) pr_74058212732561358302231226437062788676166966415465897661863160754340907 (by decide) (by decide) (by decide +kernel) (by decide +kernel) (by decide)

end Go.Proofs.Ytonnngndknoljaa

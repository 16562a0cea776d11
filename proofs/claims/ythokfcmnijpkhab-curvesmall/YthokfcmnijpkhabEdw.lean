/- A curve over the field of 2^255 - 19: its points, their sums, what a ladder reckons of them: plain mathematics. No program's text is named. -/
import Derived.Test.YthokfcmnijpkhabPrime
namespace Go.Proofs.Ythokfcmnijpkhab
set_option linter.unusedSimpArgs false
set_option linter.unusedVariables false

/-! ### The field -/
abbrev FF := Fin 57896044618658097711785492504343953926634992332820282019728792003956564819949
theorem pr_p : Pr 57896044618658097711785492504343953926634992332820282019728792003956564819949 := pr_57896044618658097711785492504343953926634992332820282019728792003956564819949
theorem fval_lt (a : FF) : a.val < 57896044618658097711785492504343953926634992332820282019728792003956564819949 := a.isLt
theorem fmul_val (a b : FF) : (a * b).val = a.val * b.val % 57896044618658097711785492504343953926634992332820282019728792003956564819949 := Fin.val_mul a b
theorem fne (a : FF) (h : a ≠ 0) : ¬ 57896044618658097711785492504343953926634992332820282019728792003956564819949 ∣ a.val := by
  intro hd
  apply h
  apply Fin.ext
  have h1 := Nat.eq_zero_of_dvd_of_lt hd a.isLt
  rw [h1]
  rfl
/-- What inverts. -/
def pTwo : Nat := 57896044618658097711785492504343953926634992332820282019728792003956564819947
def pHalf : Nat := 28948022309329048855892746252171976963317496166410141009864396001978282409974
theorem pTwo_eq : pTwo + 1 = 57896044618658097711785492504343953926634992332820282019728792003956564819949 - 1 := by decide
theorem pHalf_eq : 2 * pHalf = 57896044618658097711785492504343953926634992332820282019728792003956564819949 - 1 := by decide
theorem zpow_mod (k n : Nat) (h : 0 < k) : 0 ^ k % n = 0 := by rw [Nat.zero_pow h, Nat.zero_mod]
def finv (a : FF) : FF := ⟨a.val ^ pTwo % 57896044618658097711785492504343953926634992332820282019728792003956564819949, Nat.mod_lt _ (by decide)⟩
theorem finv_mul (a : FF) (h : a ≠ 0) : a * finv a = 1 := by
  apply Fin.ext
  rw [fmul_val]
  show a.val * (a.val ^ pTwo % 57896044618658097711785492504343953926634992332820282019728792003956564819949) % 57896044618658097711785492504343953926634992332820282019728792003956564819949 = 1
  rw [Nat.mul_mod_mod, Nat.mul_comm, ← Nat.pow_succ, Nat.succ_eq_add_one, pTwo_eq]
  exact fermat pr_p a.val (fne a h)
theorem fmul_zero {a b : FF} (h : a * b = 0) : a = 0 ∨ b = 0 := by
  by_cases ha : a = 0
  · exact .inl ha
  · right
    have h1 := finv_mul a ha
    have h2 : b = b * (a * finv a) := by rw [h1]; grind -lia
    rw [h2]
    have h3 : b * (a * finv a) = (a * b) * finv a := by grind -lia
    rw [h3, h]
    grind -lia
theorem fcancel {a b c : FF} (hc : c ≠ 0) (h : a * c = b * c) : a = b := by
  have h1 : (a - b) * c = 0 := by grind -lia
  rcases fmul_zero h1 with h2 | h2
  · grind -lia
  · exact absurd h2 hc
theorem finv_zero : finv 0 = 0 := by
  have h : ∀ a : FF, a.val = 0 → (finv a).val = 0 := fun a ha => by
    show a.val ^ pTwo % 57896044618658097711785492504343953926634992332820282019728792003956564819949 = 0
    rw [ha]
    exact zpow_mod pTwo 57896044618658097711785492504343953926634992332820282019728792003956564819949 (by decide)
  exact Fin.ext (h 0 rfl)

/-! ### The curve -/
def dD : FF := ⟨37095705934669439343138083508754565189542113879843219016388785533085940283555, by decide⟩
def iI : FF := ⟨19681161376707505956807079304988542015446066515923890162744021073123829784752, by decide⟩
theorem iI_sq : iI * iI = -1 := by decide +kernel
theorem dD_val : dD * 121666 = -121665 := by decide +kernel
theorem two_ne : (2 : FF) ≠ 0 := by decide
theorem dD_nsq (s : FF) : s * s ≠ dD := by
  intro h
  have hs : s ≠ 0 := by
    intro h0
    rw [h0] at h
    have : dD = 0 := by rw [← h]; decide
    exact absurd this (by decide)
  have h1 := fermat pr_p s.val (fne s hs)
  have h2 : (s * s).val = 37095705934669439343138083508754565189542113879843219016388785533085940283555 := by rw [h]; rfl
  rw [fmul_val] at h2
  have h3 : pm 57896044618658097711785492504343953926634992332820282019728792003956564819949 255 37095705934669439343138083508754565189542113879843219016388785533085940283555 pHalf = 1 := by
    rw [pm_eq 57896044618658097711785492504343953926634992332820282019728792003956564819949 255 37095705934669439343138083508754565189542113879843219016388785533085940283555 pHalf (by decide), ← h2, ← Nat.pow_mod, ← Nat.pow_two, ← Nat.pow_mul, pHalf_eq]
    exact h1
  exact absurd h3 (by decide +kernel)
def OnC (u v : FF) : Prop := v * v - u * u = 1 + dD * u * u * v * v
/-- The denominators are never 0. -/
theorem complete (u1 v1 u2 v2 : FF) (e1 : OnC u1 v1) (e2 : OnC u2 v2) : 1 + dD * u1 * u2 * v1 * v2 ≠ 0 ∧ 1 - dD * u1 * u2 * v1 * v2 ≠ 0 := by
  have key : ∀ e : FF, e = dD * u1 * u2 * v1 * v2 → e * e = 1 → False := by
    intro e he hee
    unfold OnC at e1 e2
    have hu1 : u1 ≠ 0 := by intro h; subst h; apply absurd hee; rw [he]; intro h; have : (0 : FF) = 1 := by grind -lia
                            exact absurd this (by decide)
    have hv1 : v1 ≠ 0 := by intro h; subst h; apply absurd hee; rw [he]; intro h; have : (0 : FF) = 1 := by grind -lia
                            exact absurd this (by decide)
    have hi := iI_sq
    have s1 : (iI * u1 + e * v1) * (iI * u1 + e * v1) = dD * ((u1 * v1 * (v2 + iI * u2)) * (u1 * v1 * (v2 + iI * u2))) := by
      grind -lia
    have s2 : (iI * u1 - e * v1) * (iI * u1 - e * v1) = dD * ((u1 * v1 * (v2 - iI * u2)) * (u1 * v1 * (v2 - iI * u2))) := by
      grind -lia
    have sq : ∀ a b : FF, a * a = dD * (b * b) → b = 0 := by
      intro a b h
      by_cases hb : b = 0
      · exact hb
      · have hi := finv_mul b hb
        exact absurd (show (a * finv b) * (a * finv b) = dD by grind -lia) (dD_nsq _)
    have z1 := sq _ _ s1
    have z2 := sq _ _ s2
    have nz : u1 * v1 ≠ 0 := fun h => by
      rcases fmul_zero h with h | h
      · exact hu1 h
      · exact hv1 h
    have y1 : v2 + iI * u2 = 0 := by
      rcases fmul_zero z1 with h | h
      · exact absurd h nz
      · exact h
    have y2 : v2 - iI * u2 = 0 := by
      rcases fmul_zero z2 with h | h
      · exact absurd h nz
      · exact h
    have hv2 : v2 = 0 := by
      have h2 : (2 : FF) * v2 = 0 := by grind -lia
      rcases fmul_zero h2 with h | h
      · exact absurd h two_ne
      · exact h
    have : (0 : FF) = 1 := by
      rw [← hee, he, hv2]
      grind -lia
    exact absurd this (by decide)
  refine ⟨fun h => key _ rfl (by grind -lia), fun h => key _ rfl (by grind -lia)⟩

/-! ### Points and their sums -/
structure Pt where
  u : FF
  v : FF
  on : OnC u v
theorem Pt.ext' {P Q : Pt} (hu : P.u = Q.u) (hv : P.v = Q.v) : P = Q := by
  cases P
  cases Q
  simp only at hu hv
  subst hu hv
  rfl
def dPQ (P Q : Pt) : FF := dD * P.u * Q.u * P.v * Q.v
theorem add_closed (u1 v1 u2 v2 : FF) (e1 : OnC u1 v1) (e2 : OnC u2 v2) (U V D : FF) (hU : U = u1 * v2 + v1 * u2) (hV : V = v1 * v2 + u1 * u2) (hD : D = dD * u1 * u2 * v1 * v2) :
    V * V * ((1 + D) * (1 + D)) - U * U * ((1 - D) * (1 - D)) = (1 - D) * (1 - D) * ((1 + D) * (1 + D)) + dD * U * U * V * V := by
  unfold OnC at e1 e2
  generalize dD = d at *
  subst hU hV hD
  grind -lia
def padd (P Q : Pt) : Pt where
  u := (P.u * Q.v + P.v * Q.u) * finv (1 + dPQ P Q)
  v := (P.v * Q.v + P.u * Q.u) * finv (1 - dPQ P Q)
  on := by
    have hc := complete P.u P.v Q.u Q.v P.on Q.on
    have ha := finv_mul _ hc.1
    have hb := finv_mul _ hc.2
    have h := add_closed P.u P.v Q.u Q.v P.on Q.on _ _ _ rfl rfl rfl
    unfold OnC dPQ
    generalize finv (1 + dD * P.u * Q.u * P.v * Q.v) = a at *
    generalize finv (1 - dD * P.u * Q.u * P.v * Q.v) = b at *
    generalize dD * P.u * Q.u * P.v * Q.v = D at *
    generalize P.u * Q.v + P.v * Q.u = U at *
    generalize P.v * Q.v + P.u * Q.u = V at *
    generalize dD = d at *
    grind -lia
def pzero : Pt := ⟨0, 1, by unfold OnC; decide +kernel⟩
def pneg (P : Pt) : Pt := ⟨-P.u, P.v, by have := P.on; unfold OnC at *; generalize dD = d at *; grind -lia⟩
theorem padd_comm (P Q : Pt) : padd P Q = padd Q P := by
  have e : dPQ P Q = dPQ Q P := by unfold dPQ; generalize dD = d; grind -lia
  apply Pt.ext'
  · show (P.u * Q.v + P.v * Q.u) * finv (1 + dPQ P Q) = (Q.u * P.v + Q.v * P.u) * finv (1 + dPQ Q P)
    rw [e]
    grind -lia
  · show (P.v * Q.v + P.u * Q.u) * finv (1 - dPQ P Q) = (Q.v * P.v + Q.u * P.u) * finv (1 - dPQ Q P)
    rw [e]
    grind -lia
theorem assoc_u (d u1 v1 u2 v2 u3 v3 : FF) (e1 : v1 * v1 - u1 * u1 = 1 + d * u1 * u1 * v1 * v1) (e2 : v2 * v2 - u2 * u2 = 1 + d * u2 * u2 * v2 * v2) (e3 : v3 * v3 - u3 * u3 = 1 + d * u3 * u3 * v3 * v3)
    (U V D U' V' D' : FF) (hU : U = u1 * v2 + v1 * u2) (hV : V = v1 * v2 + u1 * u2) (hD : D = d * u1 * u2 * v1 * v2) (hU' : U' = u2 * v3 + v2 * u3) (hV' : V' = v2 * v3 + u2 * u3) (hD' : D' = d * u2 * u3 * v2 * v3) :
    (U * v3 * (1 - D) + V * u3 * (1 + D)) * ((1 + D') * (1 - D') + d * u1 * v1 * U' * V') = (u1 * V' * (1 + D') + v1 * U' * (1 - D')) * ((1 + D) * (1 - D) + d * U * V * u3 * v3) := by
  subst hU hV hD hU' hV' hD'
  grind -lia
theorem assoc_v (d u1 v1 u2 v2 u3 v3 : FF) (e1 : v1 * v1 - u1 * u1 = 1 + d * u1 * u1 * v1 * v1) (e2 : v2 * v2 - u2 * u2 = 1 + d * u2 * u2 * v2 * v2) (e3 : v3 * v3 - u3 * u3 = 1 + d * u3 * u3 * v3 * v3)
    (U V D U' V' D' : FF) (hU : U = u1 * v2 + v1 * u2) (hV : V = v1 * v2 + u1 * u2) (hD : D = d * u1 * u2 * v1 * v2) (hU' : U' = u2 * v3 + v2 * u3) (hV' : V' = v2 * v3 + u2 * u3) (hD' : D' = d * u2 * u3 * v2 * v3) :
    (V * v3 * (1 + D) + U * u3 * (1 - D)) * ((1 + D') * (1 - D') - d * u1 * v1 * U' * V') = (v1 * V' * (1 + D') + u1 * U' * (1 - D')) * ((1 + D) * (1 - D) - d * U * V * u3 * v3) := by
  subst hU hV hD hU' hV' hD'
  grind -lia
end Go.Proofs.Ythokfcmnijpkhab

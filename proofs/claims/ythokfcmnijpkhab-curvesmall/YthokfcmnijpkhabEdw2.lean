/- The points of the curve are a group: sums can be grouped and turned; multiples. Plain mathematics. No program's text is named. -/
import Derived.Test.YthokfcmnijpkhabEdw
namespace Go.Proofs.Ythokfcmnijpkhab
set_option linter.unusedSimpArgs false
set_option linter.unusedVariables false

theorem frac_eq {a b a' b' : FF} (hb : b ≠ 0) (hb' : b' ≠ 0) (h : a * b' = a' * b) : a * finv b = a' * finv b' := by
  have h1 := finv_mul b hb
  have h2 := finv_mul b' hb'
  refine fcancel hb (fcancel hb' ?_)
  generalize finv b = x at *
  generalize finv b' = y at *
  grind -lia
theorem mid_u (d u1 v1 u3 v3 U V D U' V' D' a b a' b' : FF) (ha : (1 + D) * a = 1) (hb : (1 - D) * b = 1) (ha' : (1 + D') * a' = 1) (hb' : (1 - D') * b' = 1)
    (h : (U * v3 * (1 - D) + V * u3 * (1 + D)) * ((1 + D') * (1 - D') + d * u1 * v1 * U' * V') = (u1 * V' * (1 + D') + v1 * U' * (1 - D')) * ((1 + D) * (1 - D) + d * U * V * u3 * v3)) :
    (U * a * v3 + V * b * u3) * (1 + d * u1 * (U' * a') * v1 * (V' * b')) = (u1 * (V' * b') + v1 * (U' * a')) * (1 + d * (U * a) * u3 * (V * b) * v3) := by
  have e1 : (U * a * v3 + V * b * u3) = (U * v3 * (1 - D) + V * u3 * (1 + D)) * (a * b) := by grind -lia
  have e2 : (1 + d * u1 * (U' * a') * v1 * (V' * b')) = ((1 + D') * (1 - D') + d * u1 * v1 * U' * V') * (a' * b') := by grind -lia
  have e3 : (u1 * (V' * b') + v1 * (U' * a')) = (u1 * V' * (1 + D') + v1 * U' * (1 - D')) * (a' * b') := by grind -lia
  have e4 : (1 + d * (U * a) * u3 * (V * b) * v3) = ((1 + D) * (1 - D) + d * U * V * u3 * v3) * (a * b) := by grind -lia
  rw [e1, e2, e3, e4]
  clear e1 e2 e3 e4 ha hb ha' hb'
  generalize (U * v3 * (1 - D) + V * u3 * (1 + D)) = x at *
  generalize ((1 + D') * (1 - D') + d * u1 * v1 * U' * V') = y at *
  generalize (u1 * V' * (1 + D') + v1 * U' * (1 - D')) = z at *
  generalize ((1 + D) * (1 - D) + d * U * V * u3 * v3) = t at *
  grind -lia
theorem mid_v (d u1 v1 u3 v3 U V D U' V' D' a b a' b' : FF) (ha : (1 + D) * a = 1) (hb : (1 - D) * b = 1) (ha' : (1 + D') * a' = 1) (hb' : (1 - D') * b' = 1)
    (h : (V * v3 * (1 + D) + U * u3 * (1 - D)) * ((1 + D') * (1 - D') - d * u1 * v1 * U' * V') = (v1 * V' * (1 + D') + u1 * U' * (1 - D')) * ((1 + D) * (1 - D) - d * U * V * u3 * v3)) :
    (V * b * v3 + U * a * u3) * (1 - d * u1 * (U' * a') * v1 * (V' * b')) = (v1 * (V' * b') + u1 * (U' * a')) * (1 - d * (U * a) * u3 * (V * b) * v3) := by
  have e1 : (V * b * v3 + U * a * u3) = (V * v3 * (1 + D) + U * u3 * (1 - D)) * (a * b) := by grind -lia
  have e2 : (1 - d * u1 * (U' * a') * v1 * (V' * b')) = ((1 + D') * (1 - D') - d * u1 * v1 * U' * V') * (a' * b') := by grind -lia
  have e3 : (v1 * (V' * b') + u1 * (U' * a')) = (v1 * V' * (1 + D') + u1 * U' * (1 - D')) * (a' * b') := by grind -lia
  have e4 : (1 - d * (U * a) * u3 * (V * b) * v3) = ((1 + D) * (1 - D) - d * U * V * u3 * v3) * (a * b) := by grind -lia
  rw [e1, e2, e3, e4]
  clear e1 e2 e3 e4 ha hb ha' hb'
  generalize (V * v3 * (1 + D) + U * u3 * (1 - D)) = x at *
  generalize ((1 + D') * (1 - D') - d * u1 * v1 * U' * V') = y at *
  generalize (v1 * V' * (1 + D') + u1 * U' * (1 - D')) = z at *
  generalize ((1 + D) * (1 - D) - d * U * V * u3 * v3) = t at *
  grind -lia
theorem padd_assoc (P Q R : Pt) : padd (padd P Q) R = padd P (padd Q R) := by
  have c1 := complete P.u P.v Q.u Q.v P.on Q.on
  have c2 := complete Q.u Q.v R.u R.v Q.on R.on
  have c3 := complete (padd P Q).u (padd P Q).v R.u R.v (padd P Q).on R.on
  have c4 := complete P.u P.v (padd Q R).u (padd Q R).v P.on (padd Q R).on
  have ha := finv_mul _ c1.1
  have hb := finv_mul _ c1.2
  have ha' := finv_mul _ c2.1
  have hb' := finv_mul _ c2.2
  have hu := assoc_u dD P.u P.v Q.u Q.v R.u R.v P.on Q.on R.on _ _ _ _ _ _ rfl rfl rfl rfl rfl rfl
  have hv := assoc_v dD P.u P.v Q.u Q.v R.u R.v P.on Q.on R.on _ _ _ _ _ _ rfl rfl rfl rfl rfl rfl
  apply Pt.ext'
  · show ((padd P Q).u * R.v + (padd P Q).v * R.u) * finv (1 + dPQ (padd P Q) R) = (P.u * (padd Q R).v + P.v * (padd Q R).u) * finv (1 + dPQ P (padd Q R))
    exact frac_eq c3.1 c4.1 (mid_u dD P.u P.v R.u R.v _ _ _ _ _ _ _ _ _ _ ha hb ha' hb' hu)
  · show ((padd P Q).v * R.v + (padd P Q).u * R.u) * finv (1 - dPQ (padd P Q) R) = (P.v * (padd Q R).v + P.u * (padd Q R).u) * finv (1 - dPQ P (padd Q R))
    exact frac_eq c3.2 c4.2 (mid_v dD P.u P.v R.u R.v _ _ _ _ _ _ _ _ _ _ ha hb ha' hb' hv)
theorem one_inv : finv 1 = 1 := by
  have h := finv_mul 1 (by decide)
  generalize finv 1 = x at *
  grind -lia
theorem padd_zero (P : Pt) : padd P pzero = P := by
  have e : dPQ P pzero = 0 := by
    show dD * P.u * 0 * P.v * 1 = 0
    generalize dD = d
    grind -lia
  apply Pt.ext'
  · show (P.u * 1 + P.v * 0) * finv (1 + dPQ P pzero) = P.u
    rw [e]
    have h : (1 : FF) + 0 = 1 := by decide
    rw [h, one_inv]
    grind -lia
  · show (P.v * 1 + P.u * 0) * finv (1 - dPQ P pzero) = P.v
    rw [e]
    have h : (1 : FF) - 0 = 1 := by decide
    rw [h, one_inv]
    grind -lia
/-- Multiples. -/
def nsm : Nat → Pt → Pt
  | 0, _ => pzero
  | n + 1, P => padd (nsm n P) P
theorem zero_padd (P : Pt) : padd pzero P = P := by rw [padd_comm, padd_zero]
theorem nsm_zero : ∀ n, nsm n pzero = pzero
  | 0 => rfl
  | n + 1 => by rw [nsm, nsm_zero n, padd_zero]
theorem nsm_add (P : Pt) (m : Nat) : ∀ n, nsm (m + n) P = padd (nsm m P) (nsm n P)
  | 0 => by rw [Nat.add_zero, nsm, padd_zero]
  | n + 1 => by rw [← Nat.add_assoc, nsm, nsm_add P m n, padd_assoc]; rfl
theorem nsm_mul (P : Pt) (m : Nat) : ∀ n, nsm (n * m) P = nsm n (nsm m P)
  | 0 => by rw [Nat.zero_mul]; rfl
  | n + 1 => by rw [Nat.add_mul, Nat.one_mul, nsm_add, nsm_mul P m n]; rfl
/-- Multiples of multiples can be turned. -/
theorem nsm_turn (P : Pt) (m n : Nat) : nsm m (nsm n P) = nsm n (nsm m P) := by rw [← nsm_mul, ← nsm_mul, Nat.mul_comm]
end Go.Proofs.Ythokfcmnijpkhab

/- Numbers by the prime as members of a field, the ladder's steps on them, and the bits of a clamped key: plain mathematics. No program's text is named. -/
import Derived.Test.YthokfcmnijpkhabFMath2
import Derived.Test.YthokfcmnijpkhabEdw4
namespace Go.Proofs.Ythokfcmnijpkhab
set_option linter.unusedSimpArgs false
set_option linter.unusedVariables false

/-- A number as a member of the field. -/
def fv (x : Nat) : FF := ⟨x % 57896044618658097711785492504343953926634992332820282019728792003956564819949, Nat.mod_lt _ (by decide)⟩
theorem fv_val (x : Nat) : (fv x).val = x % pN := rfl
theorem fv_eq {x y : Nat} : fv x = fv y ↔ x % pN = y % pN := by
  constructor
  · intro h
    have := congrArg Fin.val h
    exact this
  · intro h
    exact Fin.ext h
theorem fv_add (x y : Nat) : fv (x + y) = fv x + fv y := by
  apply Fin.ext
  rw [Fin.val_add]
  exact Nat.add_mod x y _
theorem fv_mul (x y : Nat) : fv (x * y) = fv x * fv y := by
  apply Fin.ext
  rw [fmul_val]
  exact Nat.mul_mod x y _
theorem fv_self (a : FF) : fv a.val = a := Fin.ext (Nat.mod_eq_of_lt a.isLt)
theorem fv_rest (x : Nat) : fv (x % pN) = fv x := fv_eq.2 (Nat.mod_mod _ _)
theorem fv_sub (x y : Nat) : fv (x + (pN - y % pN)) = fv x - fv y := by
  have h : fv (x + (pN - y % pN)) + fv y = fv x := by
    rw [← fv_add, fv_eq]
    have h1 : y % pN < pN := Nat.mod_lt _ pN_pos
    have h2 : x + (pN - y % pN) + y = x + pN * (y / pN + 1) := by
      have := Nat.div_add_mod y pN
      rw [Nat.mul_add, Nat.mul_one]
      generalize pN * (y / pN) = t at this ⊢
      omega
    rw [h2, Nat.add_mul_mod_self_left]
  rw [← h]
  generalize fv (x + (pN - y % pN)) = a
  generalize fv y = b
  grind -lia
theorem fv_zero : fv 0 = 0 := rfl
theorem fv_one : fv 1 = 1 := rfl
theorem fv_c : fv 121665 = 121665 := rfl
theorem pTwo_ex : pTwo = exN := rfl
theorem fv_pow (x : Nat) : fv (x ^ exN) = finv (fv x) := by
  apply Fin.ext
  show x ^ exN % pN = (x % pN) ^ pTwo % pN
  rw [pTwo_ex]
  exact Nat.pow_mod x exN pN

/-- Four numbers that stand for what a ladder holds. -/
def Lq (X Z S T : Nat) (l : Ld) : Prop := fv X = l.x ∧ fv Z = l.z ∧ fv S = l.s ∧ fv T = l.t
theorem Lq.turn {X Z S T : Nat} {l : Ld} (h : Lq X Z S T l) : Lq S T X Z (ldT l) := ⟨h.2.2.1, h.2.2.2, h.1, h.2.1⟩
/-- A step of the ladder, number by number. -/
theorem Lq.step {X Z S T W : Nat} {l : Ld} (h : Lq X Z S T l) {sum diff a b e c f x z g k s t st dt m1 m2 hh : Nat} (h1 : sum = X + Z) (h2 : diff = X + (pN - Z % pN)) (h3 : a = sum * sum) (h4 : b = diff * diff) (h5 : e = a + (pN - b % pN))
    (h6 : st = S + (pN - T % pN)) (h7 : c = sum * st) (h8 : dt = S + T) (h9 : f = diff * dt) (h10 : x = a * b) (h11 : m1 = 121665 * e) (h12 : m2 = a + m1) (h13 : z = e * m2) (h14 : g = c + f) (h15 : k = c + (pN - f % pN)) (h16 : s = g * g) (h17 : hh = k * k) (h18 : t = W * hh) : Lq x z s t (ldS (fv W) l) := by
  obtain ⟨e1, e2, e3, e4⟩ := h
  have k1 : fv sum = l.x + l.z := by rw [h1, fv_add, e1, e2]
  have k2 : fv diff = l.x - l.z := by rw [h2, fv_sub, e1, e2]
  have k3 : fv a = (l.x + l.z) * (l.x + l.z) := by rw [h3, fv_mul, k1]
  have k4 : fv b = (l.x - l.z) * (l.x - l.z) := by rw [h4, fv_mul, k2]
  have k5 : fv e = (l.x + l.z) * (l.x + l.z) - (l.x - l.z) * (l.x - l.z) := by rw [h5, fv_sub, k3, k4]
  have k7 : fv c = (l.x + l.z) * (l.s - l.t) := by rw [h7, fv_mul, k1, h6, fv_sub, e3, e4]
  have k9 : fv f = (l.x - l.z) * (l.s + l.t) := by rw [h9, fv_mul, k2, h8, fv_add, e3, e4]
  refine ⟨?_, ?_, ?_, ?_⟩
  · rw [h10, fv_mul, k3, k4]
    rfl
  · rw [h13, fv_mul, k5, h12, fv_add, k3, h11, fv_mul, k5, fv_c]
    rfl
  · rw [h16, fv_mul, h14, fv_add, k7, k9]
    rfl
  · rw [h18, fv_mul, h17, fv_mul, h15, fv_sub, k7, k9]
    rfl
/-- Bit i of bytes, the lowest first. -/
def bitB (n : List UInt8) (i : Nat) : Bool := (n.getD (i / 8) 0).toNat / 2 ^ (i % 8) % 2 == 1
/-- A key, as it is used. -/
def clL (k : List UInt8) : List UInt8 := (k.set 0 (UInt8.ofNat ((k.getD 0 0).toNat / 8 * 8))).set 31 (UInt8.ofNat ((k.getD 31 0).toNat % 64 + 64))
theorem clL_length (k : List UInt8) : (clL k).length = k.length := by simp [clL]
theorem Lq.first (W : Nat) (bit : Nat → Bool) : Lq 1 0 W 1 (ldN (fv W) bit 0) := ⟨rfl, rfl, rfl, rfl⟩
theorem Lq.next {X Z S T X' Z' S' T' W : Nat} {bit : Nat → Bool} {j : Nat} (h : Lq X Z S T (ldN (fv W) bit j)) (hb : bit (254 - j) = false) (hs : Lq X Z S T (ldN (fv W) bit j) → Lq X' Z' S' T' (ldS (fv W) (ldN (fv W) bit j))) : Lq X' Z' S' T' (ldN (fv W) bit (j + 1)) := by
  have e : ldN (fv W) bit (j + 1) = ldS (fv W) (ldN (fv W) bit j) := by
    show ldB (fv W) (bit (254 - j)) _ = _
    rw [hb]
    rfl
  rw [e]
  exact hs h
theorem Lq.next1 {X Z S T X' Z' S' T' W : Nat} {bit : Nat → Bool} {j : Nat} (h : Lq X Z S T (ldN (fv W) bit j)) (hb : bit (254 - j) = true) (hs : Lq S T X Z (ldT (ldN (fv W) bit j)) → Lq S' T' X' Z' (ldS (fv W) (ldT (ldN (fv W) bit j)))) : Lq X' Z' S' T' (ldN (fv W) bit (j + 1)) := by
  have e : ldN (fv W) bit (j + 1) = ldT (ldS (fv W) (ldT (ldN (fv W) bit j))) := by
    show ldB (fv W) (bit (254 - j)) _ = _
    rw [hb]
    rfl
  rw [e]
  exact (hs h.turn).turn
/-- What the ladder of a key and a point answers. -/
def scN (k u : List UInt8) : Nat := (ldX (fv (decN u)) (bitB (clL k))).val
theorem scN_eq {X Z S T : Nat} {k u : List UInt8} (h : Lq X Z S T (ldN (fv (decN u)) (bitB (clL k)) 255)) : X * Z ^ exN % pN = scN k u % pN := by
  have e : fv (X * Z ^ exN) = ldX (fv (decN u)) (bitB (clL k)) := by
    rw [fv_mul, fv_pow, h.1, h.2.1]
    rfl
  have := congrArg Fin.val e
  unfold scN
  rw [← this, fv_val, Nat.mod_mod]
end Go.Proofs.Ythokfcmnijpkhab

/- The ladder as a whole, and that two who each take the other one's multiple come to the same: plain mathematics. No program's text is named. -/
import Derived.Test.YthokfcmnijpkhabEdw3
namespace Go.Proofs.Ythokfcmnijpkhab
set_option linter.unusedSimpArgs false
set_option linter.unusedVariables false

/-- What a ladder holds: two pairs of numbers. -/
structure Ld where
  x : FF
  z : FF
  s : FF
  t : FF
/-- A step where the bit is 0. -/
def ldS (w : FF) (l : Ld) : Ld :=
  let a := (l.x + l.z) * (l.x + l.z)
  let b := (l.x - l.z) * (l.x - l.z)
  let e := a - b
  let c := (l.x + l.z) * (l.s - l.t)
  let f := (l.x - l.z) * (l.s + l.t)
  ⟨a * b, e * (a + 121665 * e), (c + f) * (c + f), w * ((c - f) * (c - f))⟩
def ldT (l : Ld) : Ld := ⟨l.s, l.t, l.x, l.z⟩
def ldB (w : FF) (b : Bool) (l : Ld) : Ld := if b then ldT (ldS w (ldT l)) else ldS w l
def ldN (w : FF) (bit : Nat → Bool) : Nat → Ld
  | 0 => ⟨1, 0, w, 1⟩
  | j + 1 => ldB w (bit (254 - j)) (ldN w bit j)
/-- The number of the bits so far. -/
def ldK (bit : Nat → Bool) : Nat → Nat
  | 0 => 0
  | j + 1 => 2 * ldK bit j + (if bit (254 - j) then 1 else 0)
theorem ldS_rp {w : FF} {l : Ld} {P1 P2 Q : Pt} (h1 : Rp l.x l.z P1) (h2 : Rp l.s l.t P2) (hQ : P2 = padd P1 Q) (hw : w * (1 - Q.v) = 1 + Q.v) (hw0 : w ≠ 0) :
    Rp (ldS w l).x (ldS w l).z (padd P1 P1) ∧ Rp (ldS w l).s (ldS w l).t (padd P1 P2) :=
  ⟨rp_dbl h1 _ _ _ rfl rfl rfl, rp_add h1 h2 hQ hw hw0 _ _ rfl rfl⟩
theorem ldB_rp {w : FF} {l : Ld} {Q : Pt} (hw : w * (1 - Q.v) = 1 + Q.v) (hw0 : w ≠ 0) (b : Bool) (k : Nat) (h1 : Rp l.x l.z (nsm k Q)) (h2 : Rp l.s l.t (nsm (k + 1) Q)) :
    Rp (ldB w b l).x (ldB w b l).z (nsm (2 * k + if b then 1 else 0) Q) ∧ Rp (ldB w b l).s (ldB w b l).t (nsm (2 * k + (if b then 1 else 0) + 1) Q) := by
  have e0 : padd (nsm k Q) (nsm k Q) = nsm (2 * k) Q := by rw [← nsm_add]; congr 1; omega
  have e1 : padd (nsm k Q) (nsm (k + 1) Q) = nsm (2 * k + 1) Q := by rw [← nsm_add]; congr 1; omega
  have e2 : padd (nsm (k + 1) Q) (nsm (k + 1) Q) = nsm (2 * k + 2) Q := by rw [← nsm_add]; congr 1; omega
  cases b
  · obtain ⟨r1, r2⟩ := ldS_rp h1 h2 (rfl : nsm (k + 1) Q = padd (nsm k Q) Q) hw hw0
    rw [e0] at r1
    rw [e1] at r2
    exact ⟨r1, r2⟩
  · have hQ : nsm k Q = padd (nsm (k + 1) Q) (pneg Q) := by
      show nsm k Q = padd (padd (nsm k Q) Q) (pneg Q)
      rw [padd_assoc, pneg_add, padd_zero]
    obtain ⟨r1, r2⟩ := ldS_rp (l := ldT l) h2 h1 hQ (show w * (1 - (pneg Q).v) = 1 + (pneg Q).v from hw) hw0
    rw [e2] at r1
    rw [padd_comm, e1] at r2
    exact ⟨r2, r1⟩
theorem ldN_rp {w : FF} {Q : Pt} (hw : w * (1 - Q.v) = 1 + Q.v) (hw0 : w ≠ 0) (bit : Nat → Bool) : ∀ j, Rp (ldN w bit j).x (ldN w bit j).z (nsm (ldK bit j) Q) ∧ Rp (ldN w bit j).s (ldN w bit j).t (nsm (ldK bit j + 1) Q)
  | 0 => by
    refine ⟨⟨?_, .inl (by show (1 : FF) ≠ 0; decide)⟩, ⟨?_, .inr (by show (1 : FF) ≠ 0; decide)⟩⟩
    · show (1 : FF) * (1 - 1) = 0 * (1 + 1)
      decide
    · show w * (1 - (padd pzero Q).v) = 1 * (1 + (padd pzero Q).v)
      rw [zero_padd, hw]
      generalize Q.v = v
      grind -lia
  | j + 1 => ldB_rp hw hw0 (bit (254 - j)) (ldK bit j) (ldN_rp hw hw0 bit j).1 (ldN_rp hw hw0 bit j).2
/-- The number that a point is told by. -/
def xv (P : Pt) : FF := (1 + P.v) * finv (1 - P.v)
theorem Rp.tell {X Z : FF} {P : Pt} (h : Rp X Z P) : X * finv Z = xv P := by
  unfold xv
  by_cases hz : Z = 0
  · have hx : X ≠ 0 := by
      rcases h.2 with h2 | h2
      · exact h2
      · exact absurd hz h2
    have h1 := h.1
    rw [hz] at h1
    have h2 : X * (1 - P.v) = 0 := by
      rw [h1]
      generalize P.v = v
      grind -lia
    have h3 : 1 - P.v = 0 := by
      rcases fmul_zero h2 with h4 | h4
      · exact absurd h4 hx
      · exact h4
    rw [hz, h3, finv_zero]
    generalize P.v = v
    grind -lia
  · have hv : 1 - P.v ≠ 0 := by
      intro h0
      have h1 := h.1
      rw [h0] at h1
      have h2 : Z * (1 + P.v) = 0 := by
        rw [← h1]
        grind -lia
      rcases fmul_zero h2 with h4 | h4
      · exact hz h4
      · apply two_ne
        generalize P.v = v at *
        grind -lia
    exact frac_eq hz hv (by rw [h.1]; generalize P.v = v; grind -lia)
/-- What a ladder answers. -/
def ldX (w : FF) (bit : Nat → Bool) : FF := (ldN w bit 255).x * finv (ldN w bit 255).z
theorem ldX_eq {w : FF} {Q : Pt} (hw : w * (1 - Q.v) = 1 + Q.v) (hw0 : w ≠ 0) (bit : Nat → Bool) : ldX w bit = xv (nsm (ldK bit 255) Q) := (ldN_rp hw hw0 bit 255).1.tell
/-- Of 0 it answers 0, if the highest bit is 1. -/
theorem ldB_nought (b : Bool) (l : Ld) (hx : l.x = 0) (hz : l.z = 0) (ht : l.t = 0) : (ldB 0 b l).x = 0 ∧ (ldB 0 b l).z = 0 ∧ (ldB 0 b l).t = 0 := by
  obtain ⟨x, z, s, t⟩ := l
  simp only at hx hz ht
  subst hx hz ht
  cases b
  · refine ⟨?_, ?_, ?_⟩
    · show (((0 : FF) + 0) * (0 + 0)) * ((0 - 0) * (0 - 0)) = 0
      decide
    · show ((((0 : FF) + 0) * (0 + 0)) - ((0 - 0) * (0 - 0))) * ((((0 : FF) + 0) * (0 + 0)) + 121665 * ((((0 : FF) + 0) * (0 + 0)) - ((0 - 0) * (0 - 0)))) = 0
      decide
    · show (0 : FF) * (((0 + 0) * (s - 0) - (0 - 0) * (s + 0)) * ((0 + 0) * (s - 0) - (0 - 0) * (s + 0))) = 0
      grind -lia
  · refine ⟨?_, ?_, ?_⟩
    · show ((s + 0) * ((0 : FF) - 0) + (s - 0) * (0 + 0)) * ((s + 0) * (0 - 0) + (s - 0) * (0 + 0)) = 0
      grind -lia
    · show (0 : FF) * (((s + 0) * (0 - 0) - (s - 0) * (0 + 0)) * ((s + 0) * (0 - 0) - (s - 0) * (0 + 0))) = 0
      grind -lia
    · show (((s + 0) * (s + 0)) - ((s - 0) * (s - 0))) * (((s + 0) * (s + 0)) + 121665 * (((s + 0) * (s + 0)) - ((s - 0) * (s - 0)))) = (0 : FF)
      grind -lia
theorem ldN_nought (bit : Nat → Bool) (hb : bit 254 = true) : ∀ j, (ldN 0 bit (j + 1)).x = 0 ∧ (ldN 0 bit (j + 1)).z = 0 ∧ (ldN 0 bit (j + 1)).t = 0
  | 0 => by
    show (ldB 0 (bit 254) ⟨1, 0, 0, 1⟩).x = 0 ∧ (ldB 0 (bit 254) ⟨1, 0, 0, 1⟩).z = 0 ∧ (ldB 0 (bit 254) ⟨1, 0, 0, 1⟩).t = 0
    rw [hb]
    decide +kernel
  | j + 1 => ldB_nought _ _ (ldN_nought bit hb j).1 (ldN_nought bit hb j).2.1 (ldN_nought bit hb j).2.2
theorem ldX_nought (bit : Nat → Bool) (hb : bit 254 = true) : ldX 0 bit = 0 := by
  unfold ldX
  rw [(ldN_nought bit hb 254).1]
  generalize finv _ = k
  grind -lia
/-- The point whose number is 9. -/
def pBase : Pt := ⟨⟨42783823269122696939284341094755422415180979639778424813682678720006717057747, by decide⟩, ⟨46316835694926478169428394003475163141307993866256225615783033603165251855960, by decide⟩, by unfold OnC; decide +kernel⟩
theorem pBase_nine : (9 : FF) * (1 - pBase.v) = 1 + pBase.v := by decide +kernel
def pTwoT : Pt := ⟨0, -1, by unfold OnC; decide +kernel⟩
theorem pTwoT_dbl : padd pTwoT pTwoT = pzero := by
  have e : dPQ pTwoT pTwoT = 0 := by
    show dD * 0 * 0 * (-1) * (-1) = 0
    generalize dD = d
    grind -lia
  apply Pt.ext'
  · show ((0 : FF) * (-1) + (-1) * 0) * finv (1 + dPQ pTwoT pTwoT) = 0
    generalize finv _ = k
    grind -lia
  · show ((-1 : FF) * (-1) + 0 * 0) * finv (1 - dPQ pTwoT pTwoT) = 1
    rw [e]
    have h : (1 : FF) - 0 = 1 := by decide
    rw [h, one_inv]
    decide
theorem xv_zero {P : Pt} (h : xv P = 0) : P = pzero ∨ P = pTwoT := by
  have hv : P.v = 1 ∨ P.v = -1 := by
    unfold xv at h
    by_cases h0 : 1 - P.v = 0
    · left
      generalize P.v = v at *
      grind -lia
    · right
      have hi := finv_mul _ h0
      rcases fmul_zero h with h1 | h1
      · generalize P.v = v at *
        grind -lia
      · rw [h1] at hi
        have : (0 : FF) = 1 := by
          rw [← hi]
          grind -lia
        exact absurd this (by decide)
  have hsq : P.v * P.v = 1 := by
    rcases hv with h1 | h1 <;> rw [h1] <;> decide
  have hu : P.u = 0 := by
    have ho := P.on
    unfold OnC at ho
    have h1 : P.u * P.u * (1 + dD) = 0 := by
      generalize dD = d at *
      generalize P.u = u at *
      generalize P.v = v at *
      grind -lia
    rcases fmul_zero h1 with h2 | h2
    · exact sq_zero h2
    · exact absurd h2 (by decide +kernel)
  rcases hv with h1 | h1
  · exact .inl (Pt.ext' hu h1)
  · exact .inr (Pt.ext' hu h1)
theorem xv_pzero : xv pzero = 0 := by
  unfold xv
  show ((1 : FF) + 1) * finv (1 - 1) = 0
  have h : (1 : FF) - 1 = 0 := by decide
  rw [h, finv_zero]
  decide
theorem nsm_even (P : Pt) (hP : P = pzero ∨ P = pTwoT) (m : Nat) : nsm (2 * m) P = pzero := by
  rw [Nat.mul_comm, nsm_mul]
  have h2 : nsm 2 P = pzero := by
    show padd (padd pzero P) P = pzero
    rw [zero_padd]
    rcases hP with h | h
    · rw [h, padd_zero]
    · rw [h, pTwoT_dbl]
  rw [h2, nsm_zero]
theorem xv_w {P : Pt} (h : xv P ≠ 0) : xv P * (1 - P.v) = 1 + P.v := by
  have h0 : 1 - P.v ≠ 0 := by
    intro h0
    apply h
    unfold xv
    rw [h0, finv_zero]
    generalize P.v = v
    grind -lia
  have hi := finv_mul _ h0
  unfold xv
  generalize finv (1 - P.v) = k at *
  generalize P.v = v at *
  grind -lia
/-- Of two numbers of bits, the highest 1, both even, each one's ladder of the other one's of 9 is the same. -/
theorem agree (b1 b2 : Nat → Bool) (h1 : b1 254 = true) (h2 : b2 254 = true) (e1 : ldK b1 255 % 2 = 0) (e2 : ldK b2 255 % 2 = 0) : ldX (ldX 9 b1) b2 = ldX (ldX 9 b2) b1 := by
  have n9 : (9 : FF) ≠ 0 := by decide
  have w1 := ldX_eq pBase_nine n9 b1
  have w2 := ldX_eq pBase_nine n9 b2
  obtain ⟨m1, hm1⟩ : ∃ m, ldK b1 255 = 2 * m := ⟨ldK b1 255 / 2, by omega⟩
  obtain ⟨m2, hm2⟩ : ∃ m, ldK b2 255 = 2 * m := ⟨ldK b2 255 / 2, by omega⟩
  have side : ∀ (b c : Nat → Bool) (k l : Nat), b 254 = true → c 254 = true → ldK b 255 = k → ldK c 255 = l → (∃ m, k = 2 * m) → (∃ m, l = 2 * m) → xv (nsm k pBase) = 0 → ldX (xv (nsm k pBase)) c = ldX (xv (nsm l pBase)) b := by
    intro b c k l hb hc hbk hcl hk hl hz
    rw [hz, ldX_nought c hc]
    by_cases hz2 : xv (nsm l pBase) = 0
    · rw [hz2, ldX_nought b hb]
    · rw [ldX_eq (xv_w hz2) hz2 b, hbk, nsm_turn]
      obtain ⟨m, hm⟩ := hl
      rw [hm, nsm_even _ (xv_zero hz), xv_pzero]
  rw [w1, w2]
  by_cases z1 : xv (nsm (ldK b1 255) pBase) = 0
  · exact side b1 b2 _ _ h1 h2 rfl rfl ⟨m1, hm1⟩ ⟨m2, hm2⟩ z1
  · by_cases z2 : xv (nsm (ldK b2 255) pBase) = 0
    · exact (side b2 b1 _ _ h2 h1 rfl rfl ⟨m2, hm2⟩ ⟨m1, hm1⟩ z2).symm
    · rw [ldX_eq (xv_w z1) z1 b2, ldX_eq (xv_w z2) z2 b1, nsm_turn]
end Go.Proofs.Ythokfcmnijpkhab

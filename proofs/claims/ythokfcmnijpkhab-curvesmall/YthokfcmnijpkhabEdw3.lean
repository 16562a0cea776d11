/- A ladder reckons the multiples of a point; of two numbers each one's multiple of the other one's is the same: plain mathematics. No program's text is named. -/
import Derived.Test.YthokfcmnijpkhabEdw2
namespace Go.Proofs.Ythokfcmnijpkhab
set_option linter.unusedSimpArgs false
set_option linter.unusedVariables false

theorem pneg_add (P : Pt) : padd P (pneg P) = pzero := by
  have hc := complete P.u P.v (pneg P).u (pneg P).v P.on (pneg P).on
  have hb := finv_mul _ hc.2
  apply Pt.ext'
  · show (P.u * P.v + P.v * (-P.u)) * finv (1 + dPQ P (pneg P)) = 0
    generalize finv (1 + dPQ P (pneg P)) = x
    grind -lia
  · show (P.v * P.v + P.u * (-P.u)) * finv (1 - dPQ P (pneg P)) = 1
    have e : P.v * P.v + P.u * (-P.u) = 1 - dD * P.u * (-P.u) * P.v * P.v := by
      have := P.on
      unfold OnC at this
      generalize dD = d at *
      grind -lia
    rw [e]
    exact hb
/-- A pair of numbers stands for a point. -/
def Rp (X Z : FF) (P : Pt) : Prop := X * (1 - P.v) = Z * (1 + P.v) ∧ (X ≠ 0 ∨ Z ≠ 0)
theorem two_mul_zero {a : FF} (h : 2 * a = 0) : a = 0 := by
  rcases fmul_zero h with h | h
  · exact absurd h two_ne
  · exact h
theorem Rp.sum {X Z : FF} {P : Pt} (h : Rp X Z P) : X - Z = P.v * (X + Z) ∧ X + Z ≠ 0 := by
  have h1 : X - Z = P.v * (X + Z) := by
    have := h.1
    generalize P.v = v at *
    grind -lia
  refine ⟨h1, fun h0 => ?_⟩
  rw [h0] at h1
  have hx : X = 0 := two_mul_zero (by generalize P.v = v at *; grind -lia)
  have hz : Z = 0 := two_mul_zero (by generalize P.v = v at *; grind -lia)
  rcases h.2 with h2 | h2
  · exact h2 hx
  · exact h2 hz
theorem sq_zero {a : FF} (h : a * a = 0) : a = 0 := by
  rcases fmul_zero h with h | h
  · exact h
  · exact h
theorem dbl_id (d u v : FF) (hd : d * 121666 = -121665) (e : v * v - u * u = 1 + d * u * u * v * v) : v * v = (1 + 121665 * (1 - v * v)) * (1 + u * u) := by
  grind -lia
theorem rp_dbl {x z : FF} {P : Pt} (h : Rp x z P) (a b e : FF) (ha : a = (x + z) * (x + z)) (hb : b = (x - z) * (x - z)) (he : e = a - b) : Rp (a * b) (e * (a + 121665 * e)) (padd P P) := by
  obtain ⟨hs, hn⟩ := h.sum
  have hc := finv_mul _ (complete P.u P.v P.u P.v P.on P.on).2
  have hon := P.on
  have hid := dbl_id dD P.u P.v dD_val hon
  have hb2 : b = P.v * P.v * a := by
    rw [hb, hs, ha]
    generalize P.v = v at *
    grind -lia
  have he2 : e = a * (1 - P.v * P.v) := by
    rw [he, hb2]
    generalize P.v = v at *
    grind -lia
  have hv : (padd P P).v = (P.v * P.v + P.u * P.u) * finv (1 - dD * P.u * P.u * P.v * P.v) := rfl
  have ha0 : a ≠ 0 := by
    intro h0
    rw [ha] at h0
    exact hn (sq_zero h0)
  refine ⟨?_, ?_⟩
  · rw [hv]
    have hk : 1 - dD * P.u * P.u * P.v * P.v = 2 + P.u * P.u - P.v * P.v := by
      unfold OnC at hon
      generalize dD = d at *
      grind -lia
    rw [hk] at hc ⊢
    have hne : 2 + P.u * P.u - P.v * P.v ≠ 0 := by
      intro h0
      rw [h0] at hc
      have : (0 : FF) = 1 := by rw [← hc]; grind -lia
      exact absurd this (by decide)
    refine fcancel hne ?_
    rw [hb2, he2]
    generalize finv (2 + P.u * P.u - P.v * P.v) = k at *
    clear hon hk hv hb2 he2 ha0 hne hs hn h ha hb he
    generalize P.u = u at *
    generalize P.v = v at *
    have e1 : (a * (v * v * a)) * (1 - (v * v + u * u) * k) * (2 + u * u - v * v) = a * a * (v * v) * ((2 + u * u - v * v) - (v * v + u * u) * ((2 + u * u - v * v) * k)) := by grind -lia
    have e2 : a * (1 - v * v) * (a + 121665 * (a * (1 - v * v))) * (1 + (v * v + u * u) * k) * (2 + u * u - v * v) = a * a * (1 - v * v) * (1 + 121665 * (1 - v * v)) * ((2 + u * u - v * v) + (v * v + u * u) * ((2 + u * u - v * v) * k)) := by grind -lia
    rw [e1, e2, hc]
    have e3 : a * a * (v * v) * ((2 + u * u - v * v) - (v * v + u * u) * 1) = 2 * (a * a) * (1 - v * v) * (v * v) := by grind -lia
    have e4 : a * a * (1 - v * v) * (1 + 121665 * (1 - v * v)) * ((2 + u * u - v * v) + (v * v + u * u) * 1) = 2 * (a * a) * (1 - v * v) * ((1 + 121665 * (1 - v * v)) * (1 + u * u)) := by grind -lia
    rw [e3, e4, ← hid]
  · by_cases hv0 : P.v = 0
    · right
      rw [he2, hv0]
      intro h0
      have h1 : a * a * 121666 = 0 := by
        rw [← h0]
        grind -lia
      rcases fmul_zero h1 with h2 | h2
      · exact ha0 (sq_zero h2)
      · exact absurd h2 (by decide)
    · left
      rw [hb2]
      intro h0
      rcases fmul_zero h0 with h2 | h2
      · exact ha0 h2
      · rcases fmul_zero h2 with h3 | h3
        · exact hv0 (sq_zero h3)
        · exact ha0 h3
theorem diff_add (d u1 v1 u2 v2 : FF) (e1 : v1 * v1 - u1 * u1 = 1 + d * u1 * u1 * v1 * v1) (e2 : v2 * v2 - u2 * u2 = 1 + d * u2 * u2 * v2 * v2) :
    (1 - d * u1 * u2 * v1 * v2 + v1 * v2 + u1 * u2) * (1 + d * u1 * u2 * v1 * v2 + v1 * v2 - u1 * u2) * ((v2 - v1) * (v2 - v1)) = (1 - d * u1 * u2 * v1 * v2 - v1 * v2 - u1 * u2) * (1 + d * u1 * u2 * v1 * v2 - v1 * v2 + u1 * u2) * ((v1 + v2) * (v1 + v2)) := by
  grind -lia
theorem sub_point {P1 P2 Q : Pt} (h : P2 = padd P1 Q) : Q = padd P2 (pneg P1) := by
  rw [h, padd_comm P1 Q, padd_assoc, pneg_add, padd_zero]
theorem rp_add {x z s t w : FF} {P1 P2 Q : Pt} (h1 : Rp x z P1) (h2 : Rp s t P2) (hQ : P2 = padd P1 Q) (hw : w * (1 - Q.v) = 1 + Q.v) (hw0 : w ≠ 0) (g h : FF)
    (hg : g = (x + z) * (s - t) + (x - z) * (s + t)) (hh : h = (x + z) * (s - t) - (x - z) * (s + t)) : Rp (g * g) (w * (h * h)) (padd P1 P2) := by
  obtain ⟨s1, n1⟩ := h1.sum
  obtain ⟨s2, n2⟩ := h2.sum
  have c := complete P1.u P1.v P2.u P2.v P1.on P2.on
  have ca := finv_mul _ c.1
  have cb := finv_mul _ c.2
  have hid := diff_add dD P1.u P1.v P2.u P2.v P1.on P2.on
  have hvS : (padd P1 P2).v = (P1.v * P2.v + P1.u * P2.u) * finv (1 - dD * P1.u * P2.u * P1.v * P2.v) := rfl
  have hvQ : Q.v = (P1.v * P2.v - P1.u * P2.u) * finv (1 + dD * P1.u * P2.u * P1.v * P2.v) := by
    have e := congrArg Pt.v (sub_point hQ)
    have e1 : (padd P2 (pneg P1)).v = (P2.v * P1.v + P2.u * (-P1.u)) * finv (1 - dD * P2.u * (-P1.u) * P2.v * P1.v) := rfl
    rw [e, e1]
    have e2 : 1 - dD * P2.u * (-P1.u) * P2.v * P1.v = 1 + dD * P1.u * P2.u * P1.v * P2.v := by
      generalize dD = d
      grind -lia
    rw [e2]
    generalize finv (1 + dD * P1.u * P2.u * P1.v * P2.v) = k
    grind -lia
  have hq1 : 1 - Q.v ≠ 0 := by
    intro h0
    rw [h0] at hw
    have e : (2 : FF) = 0 := by
      generalize Q.v = v at *
      grind -lia
    exact two_ne e
  rw [s1, s2] at hg hh
  have hg2 : g = (x + z) * (s + t) * (P1.v + P2.v) := by
    rw [hg]
    generalize P1.v = v1
    generalize P2.v = v2
    grind -lia
  have hh2 : h = (x + z) * (s + t) * (P2.v - P1.v) := by
    rw [hh]
    generalize P1.v = v1
    generalize P2.v = v2
    grind -lia
  clear hg hh s1 s2
  have nn : (x + z) * (s + t) ≠ 0 := fun h0 => by
    rcases fmul_zero h0 with h | h
    · exact n1 h
    · exact n2 h
  generalize (x + z) * (s + t) = m at *
  refine ⟨?_, ?_⟩
  · refine fcancel hq1 (fcancel c.1 (fcancel c.2 ?_))
    have f1 : g * g * (1 - (padd P1 P2).v) * (1 - Q.v) * (1 + dD * P1.u * P2.u * P1.v * P2.v) * (1 - dD * P1.u * P2.u * P1.v * P2.v) = m * m * ((1 - dD * P1.u * P2.u * P1.v * P2.v - P1.v * P2.v - P1.u * P2.u) * (1 + dD * P1.u * P2.u * P1.v * P2.v - P1.v * P2.v + P1.u * P2.u) * ((P1.v + P2.v) * (P1.v + P2.v))) := by
      rw [hvS, hvQ, hg2]
      clear hid hvS hvQ hg2 hh2 hw hq1 c h1 h2 n1 n2
      generalize finv (1 - dD * P1.u * P2.u * P1.v * P2.v) = kb at *
      generalize finv (1 + dD * P1.u * P2.u * P1.v * P2.v) = ka at *
      generalize dD * P1.u * P2.u * P1.v * P2.v = D at *
      generalize P1.v = v1 at *
      generalize P2.v = v2 at *
      generalize P1.u = u1 at *
      generalize P2.u = u2 at *
      grind -lia
    have f2 : w * (h * h) * (1 + (padd P1 P2).v) * (1 - Q.v) * (1 + dD * P1.u * P2.u * P1.v * P2.v) * (1 - dD * P1.u * P2.u * P1.v * P2.v) = m * m * ((1 - dD * P1.u * P2.u * P1.v * P2.v + P1.v * P2.v + P1.u * P2.u) * (1 + dD * P1.u * P2.u * P1.v * P2.v + P1.v * P2.v - P1.u * P2.u) * ((P2.v - P1.v) * (P2.v - P1.v))) := by
      have f3 : w * (h * h) * (1 + (padd P1 P2).v) * (1 - Q.v) = (h * h) * (1 + (padd P1 P2).v) * (1 + Q.v) := by
        rw [← hw]
        generalize Q.v = vq
        generalize (padd P1 P2).v = vs
        grind -lia
      rw [f3, hvS, hvQ, hh2]
      clear f3 f1 hid hvS hvQ hg2 hh2 hw hq1 c h1 h2 n1 n2
      generalize finv (1 - dD * P1.u * P2.u * P1.v * P2.v) = kb at *
      generalize finv (1 + dD * P1.u * P2.u * P1.v * P2.v) = ka at *
      generalize dD * P1.u * P2.u * P1.v * P2.v = D at *
      generalize P1.v = v1 at *
      generalize P2.v = v2 at *
      generalize P1.u = u1 at *
      generalize P2.u = u2 at *
      grind -lia
    rw [f1, f2, hid]
  · refine Classical.byContradiction fun hc => ?_
    have hg0 : g * g = 0 := Classical.byContradiction fun h0 => hc (.inl h0)
    have hh0 : w * (h * h) = 0 := Classical.byContradiction fun h0 => hc (.inr h0)
    have hg3 := sq_zero hg0
    have hh3 : h = 0 := by
      rcases fmul_zero hh0 with h4 | h4
      · exact absurd h4 hw0
      · exact sq_zero h4
    rw [hg2] at hg3
    rw [hh2] at hh3
    have a1 : P1.v + P2.v = 0 := by
      rcases fmul_zero hg3 with h4 | h4
      · exact absurd h4 nn
      · exact h4
    have a2 : P2.v - P1.v = 0 := by
      rcases fmul_zero hh3 with h4 | h4
      · exact absurd h4 nn
      · exact h4
    have b1 : P1.v = 0 := two_mul_zero (by generalize P1.v = v1 at *; generalize P2.v = v2 at *; grind -lia)
    have b2 : P2.v = 0 := two_mul_zero (by generalize P1.v = v1 at *; generalize P2.v = v2 at *; grind -lia)
    have o1 := P1.on
    have o2 := P2.on
    unfold OnC at o1 o2
    rw [b1] at o1
    rw [b2] at o2
    rw [b1, b2] at hvQ
    have z1 : 1 + dD * P1.u * P2.u * 0 * 0 = 1 := by generalize dD = d; grind -lia
    rw [z1, one_inv] at hvQ
    have q2 : (Q.v - 1) * (Q.v + 1) = 0 := by
      generalize dD = d at *
      generalize P1.u = u1 at *
      generalize P2.u = u2 at *
      generalize Q.v = vq at *
      grind -lia
    rcases fmul_zero q2 with h4 | h4
    · apply hq1
      generalize Q.v = vq at *
      grind -lia
    · apply hw0
      have h5 : Q.v = -1 := by
        generalize Q.v = vq at *
        grind -lia
      rw [h5] at hw
      exact two_mul_zero (by grind -lia)
end Go.Proofs.Ythokfcmnijpkhab

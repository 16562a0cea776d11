/- What the ladder answers for points of small order, and that bits which are set anyhow change nothing: plain mathematics. No program's text is named. -/
import Derived.Test.YthokfcmnijpkhabCMath
namespace Go.Proofs.Ythokfcmnijpkhab
set_option linter.unusedSimpArgs false
set_option linter.unusedVariables false

/-! ### Points of order 4: where the ladder stands goes round -/
def Sm (q : FF) (k : Nat) (l : Ld) : Prop :=
  match k with
  | 0 => l.z = 0 ∧ l.s = q * l.t
  | 1 => l.x = q * l.z ∧ l.s = 0
  | 2 => l.x = 0 ∧ l.s = q * l.t
  | _ => l.x = q * l.z ∧ l.t = 0
theorem sm_step {q : FF} (hq : q = 1 ∨ q = -1) {l : Ld} : (Sm q 0 l → Sm q 0 (ldS q l)) ∧ (Sm q 1 l → Sm q 2 (ldS q l)) ∧ (Sm q 2 l → Sm q 0 (ldS q l)) ∧ (Sm q 3 l → Sm q 2 (ldS q l)) := by
  obtain ⟨x, z, s, t⟩ := l
  have hqq : q * q = 1 := by
    rcases hq with rfl | rfl <;> decide
  refine ⟨?_, ?_, ?_, ?_⟩
  · rintro ⟨h1, h2⟩
    simp only at h1 h2
    subst h1
    constructor
    · show ((x + 0) * (x + 0) - (x - 0) * (x - 0)) * ((x + 0) * (x + 0) + 121665 * ((x + 0) * (x + 0) - (x - 0) * (x - 0))) = 0
      grind -lia
    · show ((x + 0) * (s - t) + (x - 0) * (s + t)) * ((x + 0) * (s - t) + (x - 0) * (s + t)) = q * (q * (((x + 0) * (s - t) - (x - 0) * (s + t)) * ((x + 0) * (s - t) - (x - 0) * (s + t))))
      grind -lia
  · rintro ⟨h1, h2⟩
    simp only at h1 h2
    subst h2
    constructor
    · show ((x + z) * (x + z)) * ((x - z) * (x - z)) = 0
      grind -lia
    · show ((x + z) * (0 - t) + (x - z) * (0 + t)) * ((x + z) * (0 - t) + (x - z) * (0 + t)) = q * (q * (((x + z) * (0 - t) - (x - z) * (0 + t)) * ((x + z) * (0 - t) - (x - z) * (0 + t))))
      grind -lia
  · rintro ⟨h1, h2⟩
    simp only at h1 h2
    subst h1
    constructor
    · show ((0 + z) * (0 + z) - (0 - z) * (0 - z)) * ((0 + z) * (0 + z) + 121665 * ((0 + z) * (0 + z) - (0 - z) * (0 - z))) = 0
      grind -lia
    · show ((0 + z) * (s - t) + (0 - z) * (s + t)) * ((0 + z) * (s - t) + (0 - z) * (s + t)) = q * (q * (((0 + z) * (s - t) - (0 - z) * (s + t)) * ((0 + z) * (s - t) - (0 - z) * (s + t))))
      grind -lia
  · rintro ⟨h1, h2⟩
    simp only at h1 h2
    subst h2
    constructor
    · show ((x + z) * (x + z)) * ((x - z) * (x - z)) = 0
      grind -lia
    · show ((x + z) * (s - 0) + (x - z) * (s + 0)) * ((x + z) * (s - 0) + (x - z) * (s + 0)) = q * (q * (((x + z) * (s - 0) - (x - z) * (s + 0)) * ((x + z) * (s - 0) - (x - z) * (s + 0))))
      grind -lia
theorem sm_turn {q : FF} (hq : q = 1 ∨ q = -1) {l : Ld} : (Sm q 0 l → Sm q 3 (ldT l)) ∧ (Sm q 1 l → Sm q 2 (ldT l)) ∧ (Sm q 2 l → Sm q 1 (ldT l)) ∧ (Sm q 3 l → Sm q 0 (ldT l)) :=
  ⟨fun h => ⟨h.2, h.1⟩, fun h => ⟨h.2, h.1⟩, fun h => ⟨h.2, h.1⟩, fun h => ⟨h.2, h.1⟩⟩
/-- Where it stands behind j bits. -/
def smK (bit : Nat → Bool) : Nat → Nat
  | 0 => 0
  | j + 1 => if bit (254 - j) then (if smK bit j = 0 then 1 else if smK bit j = 1 then 3 else if smK bit j = 2 then 1 else 3) else (if smK bit j = 0 then 0 else if smK bit j = 1 then 2 else if smK bit j = 2 then 0 else 2)
theorem smK_lt (bit : Nat → Bool) : ∀ j, smK bit j < 4
  | 0 => by show 0 < 4; decide
  | j + 1 => by
    unfold smK
    repeat' split
    all_goals omega
theorem ldN_small {q : FF} (hq : q = 1 ∨ q = -1) (bit : Nat → Bool) : ∀ j, Sm q (smK bit j) (ldN q bit j)
  | 0 => ⟨rfl, by show q = q * 1; grind -lia⟩
  | j + 1 => by
    have ih := ldN_small hq bit j
    have hlt := smK_lt bit j
    obtain ⟨s0, s1, s2, s3⟩ := sm_step hq (l := ldN q bit j)
    obtain ⟨t0, t1, t2, t3⟩ := sm_turn hq (l := ldN q bit j)
    obtain ⟨u0, u1, u2, u3⟩ := sm_step hq (l := ldT (ldN q bit j))
    obtain ⟨v0, v1, v2, v3⟩ := sm_turn hq (l := ldS q (ldT (ldN q bit j)))
    show Sm q (smK bit (j + 1)) (ldB q (bit (254 - j)) (ldN q bit j))
    unfold smK ldB
    have h4 : smK bit j = 0 ∨ smK bit j = 1 ∨ smK bit j = 2 ∨ smK bit j = 3 := by omega
    cases bit (254 - j) <;> rcases h4 with h | h | h | h <;> rw [h] at ih ⊢
    · exact s0 ih
    · exact s1 ih
    · exact s2 ih
    · exact s3 ih
    · exact v2 (u3 (t0 ih))
    · exact v0 (u2 (t1 ih))
    · exact v2 (u1 (t2 ih))
    · exact v0 (u0 (t3 ih))
theorem ldX_small {q : FF} (hq : q = 1 ∨ q = -1) (bit : Nat → Bool) (h0 : bit 0 = false) (h1 : bit 1 = false) : ldX q bit = 0 := by
  have h := ldN_small hq bit 255
  have e : smK bit 255 = 0 := by
    have a : smK bit 255 = if bit 0 then (if smK bit 254 = 0 then 1 else if smK bit 254 = 1 then 3 else if smK bit 254 = 2 then 1 else 3) else (if smK bit 254 = 0 then 0 else if smK bit 254 = 1 then 2 else if smK bit 254 = 2 then 0 else 2) := rfl
    have b : smK bit 254 = if bit 1 then (if smK bit 253 = 0 then 1 else if smK bit 253 = 1 then 3 else if smK bit 253 = 2 then 1 else 3) else (if smK bit 253 = 0 then 0 else if smK bit 253 = 1 then 2 else if smK bit 253 = 2 then 0 else 2) := rfl
    rw [h0] at a
    rw [h1] at b
    have c : smK bit 254 = 0 ∨ smK bit 254 = 2 := by
      rw [b]
      simp only [Bool.false_eq_true, if_false]
      repeat' split
      all_goals omega
    rw [a]
    simp only [Bool.false_eq_true, if_false]
    rcases c with c | c <;> rw [c] <;> rfl
  rw [e] at h
  unfold ldX
  rw [h.1, finv_zero]
  generalize (ldN q bit 255).x = y
  grind -lia

/-! ### A clamped key's bits -/
theorem clL_get0 (k : List UInt8) (h : k.length = 32) : ((clL k).getD 0 0).toNat = (k.getD 0 0).toNat / 8 * 8 := by
  have hb := (k.getD 0 0).toNat_lt
  unfold clL
  rw [List.getD_eq_getElem?_getD, List.getElem?_set_ne (by decide), List.getElem?_set_self (by omega)]
  show (UInt8.ofNat _).toNat = _
  rw [UInt8.toNat_ofNat']
  omega
theorem clL_get31 (k : List UInt8) (h : k.length = 32) : ((clL k).getD 31 0).toNat = (k.getD 31 0).toNat % 64 + 64 := by
  unfold clL
  rw [List.getD_eq_getElem?_getD, List.getElem?_set_self (by rw [List.length_set]; omega)]
  show (UInt8.ofNat _).toNat = _
  rw [UInt8.toNat_ofNat']
  omega
theorem bit_low (k : List UInt8) (h : k.length = 32) (i : Nat) (hi : i < 3) : bitB (clL k) i = false := by
  unfold bitB
  have e : i / 8 = 0 := by omega
  rw [e, clL_get0 k h]
  have hb := (k.getD 0 0).toNat_lt
  have h3 : i = 0 ∨ i = 1 ∨ i = 2 := by omega
  rcases h3 with rfl | rfl | rfl <;> simp <;> omega
theorem bit_top (k : List UInt8) (h : k.length = 32) : bitB (clL k) 254 = true := by
  unfold bitB
  show ((clL k).getD 31 0).toNat / 2 ^ 6 % 2 == 1
  rw [clL_get31 k h]
  have := Nat.mod_lt (k.getD 31 0).toNat (show 0 < 64 by decide)
  simp only [beq_iff_eq]
  omega
/-- Only what stays of a key, and of a point, tells. -/
theorem scN_congr {k k' u u' : List UInt8} (hk : clL k = clL k') (hu : decN u % pN = decN u' % pN) : scN k u = scN k' u' := by
  unfold scN
  rw [hk, fv_eq.2 hu]
theorem scN_lt (k u : List UInt8) : scN k u < pN := (ldX (fv (decN u)) (bitB (clL k))).isLt
theorem scN_zero {k u : List UInt8} (hk : k.length = 32) (h : decN u % pN = 0) : scN k u = 0 := by
  unfold scN
  rw [show fv (decN u) = 0 from (fv_eq (y := 0)).2 (by rw [h]; rfl), ldX_nought _ (bit_top k hk)]
  rfl
theorem scN_one {k u : List UInt8} (hk : k.length = 32) (h : decN u % pN = 1) : scN k u = 0 := by
  unfold scN
  rw [show fv (decN u) = 1 from (fv_eq (y := 1)).2 (by rw [h]; rfl), ldX_small (.inl rfl) _ (bit_low k hk 0 (by decide)) (bit_low k hk 1 (by decide))]
  rfl
theorem scN_last {k u : List UInt8} (hk : k.length = 32) (h : decN u % pN = pN - 1) : scN k u = 0 := by
  unfold scN
  rw [show fv (decN u) = -1 from Fin.ext (by rw [fv_val, h]; decide +kernel), ldX_small (.inr rfl) _ (bit_low k hk 0 (by decide)) (bit_low k hk 1 (by decide))]
  rfl
theorem enL_zero : enL 0 = List.replicate 32 0 := by decide +kernel
end Go.Proofs.Ythokfcmnijpkhab

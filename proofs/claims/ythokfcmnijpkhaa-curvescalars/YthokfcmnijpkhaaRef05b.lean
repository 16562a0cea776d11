/- What the document's own question answers whether a number is below 2^255 - 19: a contract of the reference of layer 5. -/
import Derived.Test.YthokfcmnijpkhaaRef05a
namespace Go.Proofs.Ythokfcmnijpkhaa
open Go.ChangeShapes Go.WideShapes Go.ChangeAt Go.RowKit
set_option linter.unusedSimpArgs false
set_option linter.unusedVariables false

/-- 2^255 - 1. -/
def mN : Nat := 57896044618658097711785492504343953926634992332820282019728792003956564819967
theorem mN_val : mN = 57896044618658097711785492504343953926634992332820282019728792003956564819967 := rfl
theorem mN_step : ∀ i, i < 31 → mN / 256 ^ i = 256 * (mN / 256 ^ (i + 1)) + 255 := by decide +kernel
theorem mN_low : ∀ i, i < 31 → mN = 256 ^ i * (mN / 256 ^ i) + (256 ^ i - 1) := by decide +kernel
theorem div_dg (x i : Nat) : x / 256 ^ i = 256 * (x / 256 ^ (i + 1)) + dg x i := by
  unfold dg
  rw [Nat.pow_succ, ← Nat.div_div_eq_div_mul]
  exact (Nat.div_add_mod _ _).symm
theorem below_step (x i : Nat) (h1 : 0 < i) (h2 : i < 31) (h : x / 256 ^ (i + 1) = mN / 256 ^ (i + 1)) (hd : dg x i ≠ 255) : x < pN := by
  have e1 := div_dg x i
  have e2 := mN_step i h2
  have e3 := mN_low i h2
  have e4 := dg_lt x i
  rw [h] at e1
  have hp : 0 < 256 ^ i := Nat.pow_pos (by decide)
  have h5 : x / 256 ^ i < mN / 256 ^ i := by omega
  have h6 := (Nat.div_lt_iff_lt_mul hp).1 h5
  rw [Nat.mul_comm] at h6
  have h7 : 256 ≤ 256 ^ i := by
    have := Nat.pow_le_pow_right (n := 256) (by decide) h1
    simpa using this
  have e5 : mN = pN + 18 := by decide
  generalize 256 ^ i * (mN / 256 ^ i) = q at e3 h6
  omega

set_option maxRecDepth 100000 in
set_option maxHeartbeats 1000000 in
theorem lowR_any (v : Value) (x : Nat) (hx : x < 57896044618658097711785492504343953926634992332820282019728792003956564819968) (w : World) (hr : RdI .i64 w v (nI (dgN x 32))) :
    Calls Try.prog 47 #[v] w fun e w' => e = .returned (.bool (decide (x < pN))) ∧ w' = w := by
  obtain ⟨b, off, cap, rfl, hcp, hmx, hlt, hc⟩ := hr.cells (nI_ne (by rw [← List.length_pos_iff, dgN_length]; omega))
  rw [nI_length, dgN_length] at hcp hc ⊢
  unfold maxLen at hmx
  have HC : Hid (∀ i, i < 32 → w.cell? ⟨b, off + i, none⟩ = some (.int .i64 ((dg x i : Nat) : Int))) := fun i hi => by rw [hc i hi, nI_get, dgN_get _ _ _ hi]
  have h31 : dg x 31 ≤ 127 := by unfold dg; omega
  have H31 : Hid (x / 256 ^ 31 = dg x 31) := by show _ = _; unfold dg; omega
  have hc31 := HC.out 31 (by omega)
  clear hr hc hlt
  by_cases h127 : dg x 31 = 127
  · rw [h127] at hc31
    have HI : Hid (x / 256 ^ (30 + 1) = mN / 256 ^ (30 + 1)) := by show _ = _; rw [show (30 : Nat) + 1 = 31 from rfl, H31.out, h127]; decide
    clear h127 h31
    go_enter Try.func47, Try.ntmps47
    go_wp2
    clear hc31
    go_loop [3] (fun iv => ∃ i : Nat, iv = .int .i64 (i : Int) ∧ i ≤ 30 ∧ Hid (x / 256 ^ (i + 1) = mN / 256 ^ (i + 1))) (fun iv => (intOf iv).toNat)
    case atStart => exact ⟨30, rfl, by omega, HI⟩
    case round =>
      obtain ⟨i, rfl, hi, HI2⟩ := hrel
      by_cases h0 : 0 < i
      · have hd : decide ((0 : Int) < (i : Int)) = true := decide_eq_true (by omega)
        have hiI : (0 : Int) < i := by omega
        have hi32 : (i : Int) < 32 := by omega
        have hci := HC.out i (by omega)
        by_cases h255 : dg x i = 255
        · rw [h255] at hci
          have HN : Hid (x / 256 ^ i = mN / 256 ^ i) := by
            show _ = _
            rw [div_dg x i, HI2.out, h255]
            exact (mN_step i (by omega)).symm
          obtain ⟨j, hj⟩ : ∃ j : Nat, Hid (i = j + 1) := ⟨i - 1, show _ = _ by omega⟩
          clear h255 HI2
          go_wp2
          go_round
          case rel => exact ⟨j, by rw [hj.out]; go_num, by have := hj.out; omega, by rw [hj.out] at HN; exact HN⟩
          case measure => rw [hj.out]; simp [intOf]
        · have HL : Hid (x < pN) := below_step x i h0 (by omega) HI2.out h255
          have hne : (((dg x i : Nat) : Int) != 255) = true := by simp; omega
          generalize dg x i = q at hci hne
          clear h255 HI2
          go_wp2
          go_ret
          exact ⟨congrArg (fun b => Ending.returned (.bool b)) (decide_eq_true HL.out).symm, rfl⟩
      · have hi0 : i = 0 := by omega
        subst hi0
        have hd : decide ((0 : Int) < ((0 : Nat) : Int)) = false := rfl
        have hc0 := HC.out 0 (by omega)
        rw [Nat.add_zero] at hc0
        have HE : Hid (decide (x < pN) = decide (((dg x 0 : Nat) : Int) < 237)) := by
          show _ = _
          have e1 := HI2.out
          have e2 : mN = pN + 18 := by decide
          have e3 := mN_val
          unfold dg
          rw [Nat.zero_add, Nat.pow_one] at e1
          rw [Nat.pow_zero, Nat.div_one]
          refine decide_eq_decide.2 ?_
          rw [e3] at e1 e2
          omega
        generalize dg x 0 = q at hc0 HE
        clear HI2 HI
        by_cases hq : (q : Int) < 237
        · have hdq : decide ((q : Int) < 237) = true := decide_eq_true hq
          go_wp2
          go_ret
          exact ⟨congrArg (fun b => Ending.returned (.bool b)) (HE.out.trans hdq).symm, rfl⟩
        · have hdq : decide ((q : Int) < 237) = false := decide_eq_false hq
          go_wp2
          go_ret
          exact ⟨congrArg (fun b => Ending.returned (.bool b)) (HE.out.trans hdq).symm, rfl⟩
  · have hne : (((dg x 31 : Nat) : Int) != 127) = true := by simp; omega
    have hlt : ((dg x 31 : Nat) : Int) < 127 := by omega
    have hd : decide (((dg x 31 : Nat) : Int) < 127) = true := decide_eq_true hlt
    have HL : Hid (x < pN) := by
      show _ < _
      have := H31.out
      rw [pN_val]
      omega
    rw [decide_eq_true HL.out]
    generalize dg x 31 = q at hc31 hne hlt hd
    clear H31 HL h127 h31
    go_enter Try.func47, Try.ntmps47
    go_wp2
    go_ret
    exact ⟨rfl, rfl⟩
end Go.Proofs.Ythokfcmnijpkhaa

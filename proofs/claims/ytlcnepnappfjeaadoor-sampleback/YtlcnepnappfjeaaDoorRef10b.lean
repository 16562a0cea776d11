/- What the document's own rounding, bits turned round and powers of 17 answer: contracts of the reference of layer 10, second part. -/
import Derived.Test.YtlcnepnappfjeaaDoorRef10
namespace Go.Proofs.YtlcnepnappfjeaaDoor
open Go.ChangeShapes Go.WideShapes Go.ChangeAt Go.RowKit
set_option linter.unusedSimpArgs false
set_option linter.unusedVariables false

theorem two_le {d : Nat} (h : d ≤ 12) : 1 ≤ 2 ^ d ∧ 2 ^ d ≤ 4096 :=
  ⟨Nat.pow_pos (by decide), Nat.le_trans (Nat.pow_le_pow_right (by decide) h) (by decide)⟩

set_option maxHeartbeats 1000000 in
theorem compZ_out (d x : Int) (h : d < 1 ∨ 11 < d) (w : World) :
    Calls Tryd.prog 45 #[.int .i64 d, .int .i64 x] w fun e w' => e = .returned (.int .i64 0) ∧ w' = w := by
  by_cases h1 : d < 1
  · have d1 : decide (d < 1) = true := decide_eq_true h1
    go_enter Tryd.func45, Tryd.ntmps45
    go_wp2
    go_ret
    exact ⟨rfl, rfl⟩
  · have d1 : decide (d < 1) = false := decide_eq_false h1
    have d2 : decide (11 < d) = true := decide_eq_true (by omega)
    have d3 : 11 < d := by omega
    go_enter Tryd.func45, Tryd.ntmps45
    go_wp2
    go_ret
    exact ⟨rfl, rfl⟩
set_option maxHeartbeats 1000000 in
theorem compZ_any (d : Nat) (D x : Int) (hD : D = (d : Int)) (h1 : 1 ≤ d) (h2 : d ≤ 11) (hx : In64 x) (w : World) :
    Calls Tryd.prog 45 #[.int .i64 D, .int .i64 x] w fun e w' => e = .returned (.int .i64 ((cpZ d x : Nat) : Int)) ∧ w' = w := by
  subst hD
  have d1 : decide ((d : Int) < 1) = false := decide_eq_false (by omega)
  have d2 : decide (11 < (d : Int)) = false := decide_eq_false (by omega)
  have d3 : ¬ (d : Int) < 1 := by omega
  have d4 : ¬ 11 < (d : Int) := by omega
  have hr := rsZ_lt x
  obtain ⟨t1, t2⟩ := two_le (d := d) (by omega)
  obtain ⟨t3, t4⟩ := two_le (d := d + 1) (by omega)
  obtain ⟨Z, hZ⟩ : ∃ Z : Nat, Z = cpZ d x := ⟨_, rfl⟩
  have HZ : Hid (Z = (2 ^ (d + 1) * rsZ x + 3329) / 6658 % 2 ^ d) := hZ
  rw [← hZ]
  clear hZ
  go_enter Tryd.func45, Tryd.ntmps45
  go_wp2_with fail
  refine (twoZ_any (d + 1) _ (by omega) (by omega) _).mono ?_
  rintro e w1 ⟨rfl, rfl⟩
  generalize 2 ^ (d + 1) = S at t3 t4 HZ
  go_wp2_with fail
  refine (modZ_any x hx _).mono ?_
  rintro e w2 ⟨rfl, rfl⟩
  generalize rsZ x = r at hr HZ
  obtain ⟨p, hp⟩ : ∃ p : Nat, p = S * r := ⟨_, rfl⟩
  have hpb : p ≤ 4096 * 3329 := by rw [hp]; exact Nat.mul_le_mul t4 (by omega)
  obtain ⟨q, hq⟩ : ∃ q : Nat, q = (p + 3329) / 6658 := ⟨_, rfl⟩
  have e1 : (S : Int) * (r : Int) = (p : Int) := by rw [hp, Int.natCast_mul]
  have e2 : ((p : Int) + 3329) / 6658 = (q : Int) := by omega
  rw [← hp, ← hq] at HZ
  have hqb : q ≤ 4096 := by omega
  clear hp hq hx
  go_wp2_with fail
  refine (twoZ_any d _ rfl (by omega) _).mono ?_
  rintro e w3 ⟨rfl, rfl⟩
  generalize 2 ^ d = T at t1 t2 HZ
  have e3 : (q : Int) % (T : Int) = (Z : Int) := by rw [HZ.out, Int.natCast_emod]
  have hT0 : (T : Int) ≠ 0 := by omega
  have hT1 : ((T : Int) == 0) = false := by simp; omega
  have hZb : Z ≤ q := by rw [HZ.out]; exact Nat.mod_le _ _
  go_wp2
  go_ret
  exact ⟨retZ (by first | rfl | omega), rfl⟩

set_option maxHeartbeats 1000000 in
theorem decoZ_out (d y : Int) (h : d < 1 ∨ 11 < d) (w : World) :
    Calls Tryd.prog 47 #[.int .i64 d, .int .i64 y] w fun e w' => e = .returned (.int .i64 0) ∧ w' = w := by
  by_cases h1 : d < 1
  · have d1 : decide (d < 1) = true := decide_eq_true h1
    go_enter Tryd.func47, Tryd.ntmps47
    go_wp2
    go_ret
    exact ⟨rfl, rfl⟩
  · have d1 : decide (d < 1) = false := decide_eq_false h1
    have d2 : decide (11 < d) = true := decide_eq_true (by omega)
    have d3 : 11 < d := by omega
    go_enter Tryd.func47, Tryd.ntmps47
    go_wp2
    go_ret
    exact ⟨rfl, rfl⟩
/-- What a remainder by a number above 0 is, with its sign. -/
theorem tmod_facts (y : Int) (T : Nat) (hT : 1 ≤ T) : ∃ r : Int, y.tmod (T : Int) = r ∧ -(T : Int) < r ∧ r < (T : Int) ∧ (0 ≤ r → r = y % (T : Int)) ∧ (r < 0 → r + (T : Int) = y % (T : Int)) := by
  refine ⟨_, rfl, ?_⟩
  by_cases h : 0 ≤ y
  · rw [Int.tmod_eq_emod_of_nonneg h]
    have h1 := Int.emod_nonneg y (show (T : Int) ≠ 0 by omega)
    have h2 := Int.emod_lt_of_pos y (show (0 : Int) < (T : Int) by omega)
    exact ⟨by omega, h2, fun _ => rfl, fun h3 => by omega⟩
  · obtain ⟨z, rfl⟩ : ∃ z, y = -z := ⟨-y, by omega⟩
    rw [Int.neg_tmod, Int.tmod_eq_emod_of_nonneg (by omega)]
    have h1 := Int.emod_nonneg z (show (T : Int) ≠ 0 by omega)
    have h2 := Int.emod_lt_of_pos z (show (0 : Int) < (T : Int) by omega)
    refine ⟨by omega, by omega, fun h3 => ?_, fun h3 => ?_⟩
    · have h4 : z % (T : Int) = 0 := by omega
      rw [h4, Int.neg_zero]
      exact (Int.emod_eq_zero_of_dvd ((Int.dvd_neg).2 (Int.dvd_of_emod_eq_zero h4))).symm
    · have h5 : -z = -(z % (T : Int)) + (T : Int) + (T : Int) * (-(z / (T : Int)) - 1) := by
        have := Int.mul_ediv_add_emod z (T : Int)
        rw [Int.mul_sub, Int.mul_neg, Int.mul_one]
        omega
      rw [h5, Int.add_mul_emod_self_left]
      exact (Int.emod_eq_of_lt (by omega) (by omega)).symm
set_option maxHeartbeats 1000000 in
theorem decoZ_any (d : Nat) (D y : Int) (hD : D = (d : Int)) (h1 : 1 ≤ d) (h2 : d ≤ 11) (hy : In64 y) (w : World) :
    Calls Tryd.prog 47 #[.int .i64 D, .int .i64 y] w fun e w' => e = .returned (.int .i64 ((dcZ d y : Nat) : Int)) ∧ w' = w := by
  subst hD
  have d1 : decide ((d : Int) < 1) = false := decide_eq_false (by omega)
  have d2 : decide (11 < (d : Int)) = false := decide_eq_false (by omega)
  have d3 : ¬ (d : Int) < 1 := by omega
  have d4 : ¬ 11 < (d : Int) := by omega
  obtain ⟨t1, t2⟩ := two_le (d := d) (by omega)
  obtain ⟨t3, t4⟩ := two_le (d := d + 1) (by omega)
  obtain ⟨Z, hZ⟩ : ∃ Z : Nat, Z = dcZ d y := ⟨_, rfl⟩
  have HZ : Hid (Z = (6658 * (y % ((2 ^ d : Nat) : Int)).toNat + 2 ^ d) / 2 ^ (d + 1)) := hZ
  rw [← hZ]
  have T1 : Hid (∀ w : World, Calls Tryd.prog 60 #[.int .i64 (d : Int)] w fun e w' => e = .returned (.int .i64 ((2 ^ d : Nat) : Int)) ∧ w' = w) := fun w => twoZ_any d _ rfl (by omega) w
  have T2 : Hid (∀ (w : World) (D : Int), D = (d : Int) + 1 → Calls Tryd.prog 60 #[.int .i64 D] w fun e w' => e = .returned (.int .i64 ((2 ^ (d + 1) : Nat) : Int)) ∧ w' = w) := fun w D h => twoZ_any (d + 1) _ (by omega) (by omega) w
  generalize 2 ^ (d + 1) = S at t3 t4 HZ T2
  generalize 2 ^ d = T at t1 t2 HZ T1
  obtain ⟨r, hr, hr1, hr2, hr3, hr4⟩ := tmod_facts y T t1
  have HR : Hid ((0 ≤ r → r = y % (T : Int)) ∧ (r < 0 → r + (T : Int) = y % (T : Int))) := ⟨hr3, hr4⟩
  have hT0 : (T : Int) ≠ 0 := by omega
  have hT1 : ((T : Int) == 0) = false := by simp; omega
  have hS0 : (S : Int) ≠ 0 := by omega
  have hS1 : ((S : Int) == 0) = false := by simp; omega
  clear hZ hr3 hr4
  obtain ⟨s, hs⟩ : ∃ s : Nat, s = (y % (T : Int)).toNat := ⟨_, rfl⟩
  have hsb : s < T := by
    have h1 := Int.emod_nonneg y hT0
    have h2 := Int.emod_lt_of_pos y (show (0 : Int) < (T : Int) by omega)
    omega
  have HS : Hid ((s : Int) = y % (T : Int)) := by
    have h1 := Int.emod_nonneg y hT0
    show _ = _
    omega
  rw [← hs] at HZ
  have e4 : ((6658 * s + T : Nat) : Int) / (S : Int) = (Z : Int) := by rw [HZ.out, Int.natCast_ediv]
  have hZb : Z ≤ 6658 * s + T := by rw [HZ.out]; exact Nat.div_le_self _ _
  clear hs
  obtain ⟨p, hp⟩ : ∃ p : Nat, p = 6658 * s + T := ⟨_, rfl⟩
  have hpb : p ≤ 30000000 := by omega
  rw [← hp] at e4 hZb
  have e5 : 6658 * (s : Int) + (T : Int) = (p : Int) := by omega
  clear hp HZ
  go_enter Tryd.func47, Tryd.ntmps47
  go_wp2_with fail
  refine (T1.out _).mono ?_
  rintro e w1 ⟨rfl, rfl⟩
  by_cases hneg : r < 0
  · have d5 : decide (r < 0) = true := decide_eq_true hneg
    have e6 : r + (T : Int) = (s : Int) := by have := HR.out.2 hneg; have := HS.out; omega
    go_wp2_with fail
    refine (T1.out _).mono ?_
    rintro e w2 ⟨rfl, rfl⟩
    go_wp2_with fail
    refine (T1.out _).mono ?_
    rintro e w3 ⟨rfl, rfl⟩
    go_wp2_with fail
    refine (T2.out _ _ (by omega)).mono ?_
    rintro e w4 ⟨rfl, rfl⟩
    go_wp2
    go_ret
    exact ⟨retZ (by first | rfl | omega), rfl⟩
  · have d5 : decide (r < 0) = false := decide_eq_false hneg
    have e6 : r = (s : Int) := by have := HR.out.1 (by omega); have := HS.out; omega
    subst e6
    go_wp2_with fail
    refine (T1.out _).mono ?_
    rintro e w3 ⟨rfl, rfl⟩
    go_wp2_with fail
    refine (T2.out _ _ (by omega)).mono ?_
    rintro e w4 ⟨rfl, rfl⟩
    go_wp2
    go_ret
    exact ⟨retZ (by first | rfl | omega), rfl⟩

end Go.Proofs.YtlcnepnappfjeaaDoor

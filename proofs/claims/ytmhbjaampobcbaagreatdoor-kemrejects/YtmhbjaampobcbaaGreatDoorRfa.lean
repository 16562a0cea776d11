/- What functions of the program, or of the reference, answer: contracts; several texts in one. -/
import Derived.Test.YtmhbjaampobcbaaGreatDoorNum
import Derived.Test.YtmhbjaampobcbaaGreatDoorBase
import Derived.Test.YtmhbjaampobcbaaGreatDoorChecked
import Derived.OwnWalk
import Derived.Deep.QuietTactic
import Derived.BigQuiet
import Derived.WalkSpells
import Derived.RegionTactic
import Derived.BigRegion

namespace Go.Proofs.YtmhbjaampobcbaaGreatDoor
open Go.ChangeShapes Go.WideShapes Go.ChangeAt Go.RowKit
set_option linter.unusedSimpArgs false
set_option linter.unusedVariables false

abbrev In64 (x : Int) : Prop := -9223372036854775808 ≤ x ∧ x ≤ 9223372036854775807
theorem retZ {k : IntKind} {a b : Int} (h : a = b) : Ending.returned (.int k a) = .returned (.int k b) := by rw [h]

theorem modZ_any (x : Int) (hx : In64 x) (w : World) :
  Calls Tryz.prog 99 #[.int .i64 x] w fun e w' => e = .returned (.int .i64 ((rsZ x : Nat) : Int)) ∧ w' = w := by
 rw [rsZ_int]
 obtain ⟨r, hr⟩ : ∃ r : Int, r = x.tmod 3329 := ⟨_, rfl⟩
 have hr' : x.tmod 3329 = r := hr.symm
 have HR : Hid ((0 ≤ x → r = x % 3329) ∧ (x < 0 → r ≤ 0 ∧ (r = 0 → x % 3329 = 0) ∧ (r < 0 → r + 3329 = x % 3329)) ∧ -3329 < r ∧ r < 3329) := by
  show _ ∧ _
  refine ⟨fun h => by rw [hr, Int.tmod_eq_emod_of_nonneg h], fun h => ?_, ?_⟩
  ·obtain ⟨y, rfl⟩ : ∃ y, x = -y := ⟨-x, by omega⟩
   rw [Int.neg_tmod, Int.tmod_eq_emod_of_nonneg (by omega)] at hr
   omega
  ·by_cases h : 0 ≤ x
   ·rw [Int.tmod_eq_emod_of_nonneg h] at hr; omega
   ·obtain ⟨y, rfl⟩ : ∃ y, x = -y := ⟨-x, by omega⟩
    rw [Int.neg_tmod, Int.tmod_eq_emod_of_nonneg (by omega)] at hr
    omega
 have hb := HR.out.2.2
 clear hr
 by_cases h0 : r < 0
 ·have hd : decide (r < 0) = true := decide_eq_true h0
  go_enter Tryz.func99, Tryz.ntmps99
  go_wp2
  go_ret
  refine ⟨retZ ?_, rfl⟩
  have := HR.out
  omega
 ·have hd : decide (r < 0) = false := decide_eq_false h0
  go_enter Tryz.func99, Tryz.ntmps99
  go_wp2
  go_ret
  refine ⟨retZ ?_, rfl⟩
  have := HR.out
  omega

set_option maxRecDepth 100000 in
set_option maxHeartbeats 1000000 in
theorem twoZ_any (d : Nat) (D : Int) (hD : D = (d : Int)) (hd12 : d ≤ 12) (w : World) :
  Calls Tryz.prog 144 #[.int .i64 D] w fun e w' => e = .returned (.int .i64 ((2 ^ d : Nat) : Int)) ∧ w' = w := by
 subst hD
 obtain ⟨Z, hZ⟩ : ∃ Z : Nat, Z = 2 ^ d := ⟨_, rfl⟩
 rw [← hZ]
 have HZ : Hid _ := hZ
 clear hZ
 go_enter Tryz.func144, Tryz.ntmps144
 go_wp2
 go_loop [3, 4] (fun nv iv => ∃ i m : Nat, i ≤ d ∧ nv = .int .i64 (m : Int) ∧ Hid (m = 2 ^ i) ∧ m ≤ 4096 ∧ iv = .int .i64 (i : Int)) (fun _ iv => d - (intOf iv).toNat)
 case atStart => exact ⟨0, 1, by omega, rfl, rfl, by omega, rfl⟩
 case round =>
  obtain ⟨i, m, hi, rfl, HM, hm, rfl⟩ := hrel
  by_cases hlt : i < d
  ·have hd : decide ((i : Int) < (d : Int)) = true := decide_eq_true (by omega)
   have hiI : (i : Int) < (d : Int) := by omega
   have HM2 : Hid (m * 2 = 2 ^ (i + 1)) := by show _ = _; rw [HM.out, Nat.pow_succ]
   have hm2 : m * 2 ≤ 4096 := by
    rw [HM2.out]
    exact Nat.le_trans (Nat.pow_le_pow_right (by decide) (show i + 1 ≤ 12 by omega)) (by decide)
   go_wp2
   go_round
   case rel => exact ⟨i + 1, m * 2, by omega, by go_num, HM2, hm2, by go_num⟩
   case measure => simp [intOf] <;> omega
  ·have hie : i = d := by omega
   have hd : decide ((i : Int) < (d : Int)) = false := decide_eq_false (by omega)
   have hiI : (d : Int) ≤ (i : Int) := by omega
   have HF : Hid (m = 2 ^ d) := by rw [← hie]; exact HM
   clear hie HM
   go_wp2
   go_ret
   exact ⟨retZ (by rw [show m = Z from HF.out.trans HZ.out.symm]), rfl⟩

set_option maxRecDepth 100000 in
set_option maxHeartbeats 1000000 in
theorem powerZ_any (a n : Int) (ha : In64 a) (hn : In64 n) (w : World) :
  Calls Tryz.prog 110 #[.int .i64 a, .int .i64 n] w fun e w' => e = .returned (.int .i64 ((pwZ a n : Nat) : Int)) ∧ w' = w := by
 obtain ⟨Z, hZ⟩ : ∃ Z : Nat, Z = pwZ a n := ⟨_, rfl⟩
 rw [← hZ]
 have HZZ : Hid _ := hZ
 clear hZ
 by_cases h0 : n < 0
 ·have hd : decide (n < 0) = true := decide_eq_true h0
  have HF : Hid (Z = 0) := by show _ = _; rw [HZZ.out]; unfold pwZ; rw [if_pos h0]
  go_enter Tryz.func110, Tryz.ntmps110
  go_wp2
  go_ret
  exact ⟨retZ (by rw [HF.out]; rfl), rfl⟩
 have hd0 : decide (n < 0) = false := decide_eq_false h0
 have hn0 : 0 ≤ n := by omega
 obtain ⟨m, hm⟩ : ∃ m : Nat, n = (m : Int) := ⟨n.toNat, by omega⟩
 subst hm
 have HF : Hid (Z = rsZ a ^ m % 3329) := by show _ = _; rw [HZZ.out]; unfold pwZ; rw [if_neg h0]; rfl
 have hlt := rsZ_lt a
 clear h0 HZZ
 go_enter Tryz.func110, Tryz.ntmps110
 go_wp2_with fail
 refine (modZ_any a ha _).mono ?_
 rintro e w1 ⟨rfl, rfl⟩
 generalize rsZ a = x at hlt HF
 clear ha
 by_cases hz : x = 0 ∧ 0 < m
 ·obtain ⟨rfl, hm0⟩ := hz
  have d2 : decide ((0 : Int) < (m : Int)) = true := decide_eq_true (by omega)
  have d3 : (0 : Int) < (m : Int) := by omega
  go_wp2
  go_ret
  refine ⟨retZ ?_, rfl⟩
  rw [HF.out, Nat.zero_pow hm0]
  rfl
 obtain ⟨r, hr⟩ : ∃ r : Nat, r = m % 3328 := ⟨_, rfl⟩
 have HG : Hid (Z = x ^ r % 3329) := by
  show _ = _
  rw [HF.out, hr]
  by_cases hx : x = 0
  ·have : m = 0 := by omega
   rw [this]
  ·exact pow_rest x m (by rw [Nat.mod_eq_of_lt hlt]; exact hx)
 have hrI : (m : Int) % 3328 = (r : Int) := by omega
 have hrb : r < 3328 := by omega
 have HZ : Hid (x = 0 → m = 0) := fun h => by omega
 clear hr hz HF
 by_cases hx0 : x = 0
 ·have hm0 := HZ.out hx0
  have hr0 : r = 0 := by omega
  have d1 : (((x : Nat) : Int) == 0) = true := by simp [hx0]
  have d2 : decide ((0 : Int) < (m : Int)) = false := decide_eq_false (by omega)
  have d3 : ¬ (0 : Int) < (m : Int) := by omega
  have HR0 : Hid (r = 0) := hr0
  clear HZ hr0 hm0 hx0
  go_wp2_with fail
  go_loop [5, 6] (fun ov iv => ∃ i o : Nat, i ≤ r ∧ ov = .int .i64 (o : Int) ∧ Hid (o = x ^ i % 3329) ∧ o < 3329 ∧ iv = .int .i64 (i : Int)) (fun _ iv => r - (intOf iv).toNat)
  case atStart => exact ⟨0, 1, by omega, rfl, by show _ = _; rw [Nat.pow_zero], by omega, rfl⟩
  case round =>
   obtain ⟨i, o, hi, rfl, HO, ho, rfl⟩ := hrel
   have hl : ¬ i < r := by have := HR0.out; omega
   have hie : i = r := by omega
   have hd : decide ((i : Int) < (r : Int)) = false := decide_eq_false (by omega)
   have hiI : (r : Int) ≤ (i : Int) := by omega
   have HO2 : Hid (o = x ^ r % 3329) := by rw [← hie]; exact HO
   clear hie HO
   go_wp2
   go_ret
   exact ⟨retZ (by rw [show o = Z from HO2.out.trans HG.out.symm]), rfl⟩
 ·have d1 : (((x : Nat) : Int) == 0) = false := by simp; omega
  clear HZ
  go_wp2_with fail
  go_loop [5, 6] (fun ov iv => ∃ i o : Nat, i ≤ r ∧ ov = .int .i64 (o : Int) ∧ Hid (o = x ^ i % 3329) ∧ o < 3329 ∧ iv = .int .i64 (i : Int)) (fun _ iv => r - (intOf iv).toNat)
  case atStart => exact ⟨0, 1, by omega, rfl, by show _ = _; rw [Nat.pow_zero], by omega, rfl⟩
  case round =>
   obtain ⟨i, o, hi, rfl, HO, ho, rfl⟩ := hrel
   by_cases hl : i < r
   ·have hd : decide ((i : Int) < (r : Int)) = true := decide_eq_true (by omega)
    have hiI : (i : Int) < (r : Int) := by omega
    obtain ⟨y, hy⟩ : ∃ y : Nat, y = o * x := ⟨_, rfl⟩
    have hyb : y ≤ 3329 * 3329 := by rw [hy]; exact Nat.mul_le_mul (by omega) (by omega)
    have e1 : (o : Int) * (x : Int) = (y : Int) := by rw [hy, Int.natCast_mul]
    obtain ⟨z, hz⟩ : ∃ z : Nat, z = y % 3329 := ⟨_, rfl⟩
    have e2 : (y : Int) % 3329 = (z : Int) := by omega
    have HO2 : Hid (z = x ^ (i + 1) % 3329) := by show _ = _; rw [hz, hy, HO.out, Nat.mod_mul_mod, Nat.pow_succ]
    have hzb : z < 3329 := by omega
    clear hy hz
    go_wp2
    go_round
    case rel => exact ⟨i + 1, z, by omega, by go_num, HO2, hzb, by go_num⟩
    case measure => simp [intOf] <;> omega
   ·have hie : i = r := by omega
    have hd : decide ((i : Int) < (r : Int)) = false := decide_eq_false (by omega)
    have hiI : (r : Int) ≤ (i : Int) := by omega
    have HO2 : Hid (o = x ^ r % 3329) := by rw [← hie]; exact HO
    clear hie HO
    go_wp2
    go_ret
    exact ⟨retZ (by rw [show o = Z from HO2.out.trans HG.out.symm]), rfl⟩
theorem two_le {d : Nat} (h : d ≤ 12) : 1 ≤ 2 ^ d ∧ 2 ^ d ≤ 4096 :=
 ⟨Nat.pow_pos (by decide), Nat.le_trans (Nat.pow_le_pow_right (by decide) h) (by decide)⟩

set_option maxHeartbeats 1000000 in
theorem compZ_out (d x : Int) (h : d < 1 ∨ 11 < d) (w : World) :
  Calls Tryz.prog 111 #[.int .i64 d, .int .i64 x] w fun e w' => e = .returned (.int .i64 0) ∧ w' = w := by
 by_cases h1 : d < 1
 ·have d1 : decide (d < 1) = true := decide_eq_true h1
  go_enter Tryz.func111, Tryz.ntmps111
  go_wp2
  go_ret
  exact ⟨rfl, rfl⟩
 ·have d1 : decide (d < 1) = false := decide_eq_false h1
  have d2 : decide (11 < d) = true := decide_eq_true (by omega)
  have d3 : 11 < d := by omega
  go_enter Tryz.func111, Tryz.ntmps111
  go_wp2
  go_ret
  exact ⟨rfl, rfl⟩
set_option maxHeartbeats 1000000 in
theorem compZ_any (d : Nat) (D x : Int) (hD : D = (d : Int)) (h1 : 1 ≤ d) (h2 : d ≤ 11) (hx : In64 x) (w : World) :
  Calls Tryz.prog 111 #[.int .i64 D, .int .i64 x] w fun e w' => e = .returned (.int .i64 ((cpZ d x : Nat) : Int)) ∧ w' = w := by
 subst hD
 have d1 : decide ((d : Int) < 1) = false := decide_eq_false (by omega)
 have d2 : decide (11 < (d : Int)) = false := decide_eq_false (by omega)
 have d3 : ¬ (d : Int) < 1 := by omega
 have d4 : ¬ 11 < (d : Int) := by omega
 have hr := rsZ_lt x
 obtain ⟨t1, t2⟩ := two_le (d := d) (by omega)
 obtain ⟨t3, t4⟩ := two_le (d := d + 1) (by omega)
 obtain ⟨Z, hZ⟩ : ∃ Z : Nat, Z = cpZ d x := ⟨_, rfl⟩
 have HZ : Hid (Z = (2 ^ (d + 1) * rsZ x + 3329) / 6658 % 2 ^ d) := hZ
 rw [← hZ]
 clear hZ
 go_enter Tryz.func111, Tryz.ntmps111
 go_wp2_with fail
 refine (twoZ_any (d + 1) _ (by omega) (by omega) _).mono ?_
 rintro e w1 ⟨rfl, rfl⟩
 generalize 2 ^ (d + 1) = S at t3 t4 HZ
 go_wp2_with fail
 refine (modZ_any x hx _).mono ?_
 rintro e w2 ⟨rfl, rfl⟩
 generalize rsZ x = r at hr HZ
 obtain ⟨p, hp⟩ : ∃ p : Nat, p = S * r := ⟨_, rfl⟩
 have hpb : p ≤ 4096 * 3329 := by rw [hp]; exact Nat.mul_le_mul t4 (by omega)
 obtain ⟨q, hq⟩ : ∃ q : Nat, q = (p + 3329) / 6658 := ⟨_, rfl⟩
 have e1 : (S : Int) * (r : Int) = (p : Int) := by rw [hp, Int.natCast_mul]
 have e2 : ((p : Int) + 3329) / 6658 = (q : Int) := by omega
 rw [← hp, ← hq] at HZ
 have hqb : q ≤ 4096 := by omega
 clear hp hq hx
 go_wp2_with fail
 refine (twoZ_any d _ rfl (by omega) _).mono ?_
 rintro e w3 ⟨rfl, rfl⟩
 generalize 2 ^ d = T at t1 t2 HZ
 have e3 : (q : Int) % (T : Int) = (Z : Int) := by rw [HZ.out, Int.natCast_emod]
 have hT0 : (T : Int) ≠ 0 := by omega
 have hT1 : ((T : Int) == 0) = false := by simp; omega
 have hZb : Z ≤ q := by rw [HZ.out]; exact Nat.mod_le _ _
 go_wp2
 go_ret
 exact ⟨retZ (by first | rfl | omega), rfl⟩

set_option maxHeartbeats 1000000 in
theorem decoZ_out (d y : Int) (h : d < 1 ∨ 11 < d) (w : World) :
  Calls Tryz.prog 112 #[.int .i64 d, .int .i64 y] w fun e w' => e = .returned (.int .i64 0) ∧ w' = w := by
 by_cases h1 : d < 1
 ·have d1 : decide (d < 1) = true := decide_eq_true h1
  go_enter Tryz.func112, Tryz.ntmps112
  go_wp2
  go_ret
  exact ⟨rfl, rfl⟩
 ·have d1 : decide (d < 1) = false := decide_eq_false h1
  have d2 : decide (11 < d) = true := decide_eq_true (by omega)
  have d3 : 11 < d := by omega
  go_enter Tryz.func112, Tryz.ntmps112
  go_wp2
  go_ret
  exact ⟨rfl, rfl⟩
theorem tmod_facts (y : Int) (T : Nat) (hT : 1 ≤ T) : ∃ r : Int, y.tmod (T : Int) = r ∧ -(T : Int) < r ∧ r < (T : Int) ∧ (0 ≤ r → r = y % (T : Int)) ∧ (r < 0 → r + (T : Int) = y % (T : Int)) := by
 refine ⟨_, rfl, ?_⟩
 by_cases h : 0 ≤ y
 ·rw [Int.tmod_eq_emod_of_nonneg h]
  have h1 := Int.emod_nonneg y (show (T : Int) ≠ 0 by omega)
  have h2 := Int.emod_lt_of_pos y (show (0 : Int) < (T : Int) by omega)
  exact ⟨by omega, h2, fun _ => rfl, fun h3 => by omega⟩
 ·obtain ⟨z, rfl⟩ : ∃ z, y = -z := ⟨-y, by omega⟩
  rw [Int.neg_tmod, Int.tmod_eq_emod_of_nonneg (by omega)]
  have h1 := Int.emod_nonneg z (show (T : Int) ≠ 0 by omega)
  have h2 := Int.emod_lt_of_pos z (show (0 : Int) < (T : Int) by omega)
  refine ⟨by omega, by omega, fun h3 => ?_, fun h3 => ?_⟩
  ·have h4 : z % (T : Int) = 0 := by omega
   rw [h4, Int.neg_zero]
   exact (Int.emod_eq_zero_of_dvd ((Int.dvd_neg).2 (Int.dvd_of_emod_eq_zero h4))).symm
  ·have h5 : -z = -(z % (T : Int)) + (T : Int) + (T : Int) * (-(z / (T : Int)) - 1) := by
    have := Int.mul_ediv_add_emod z (T : Int)
    rw [Int.mul_sub, Int.mul_neg, Int.mul_one]
    omega
   rw [h5, Int.add_mul_emod_self_left]
   exact (Int.emod_eq_of_lt (by omega) (by omega)).symm
set_option maxHeartbeats 1000000 in
theorem decoZ_any (d : Nat) (D y : Int) (hD : D = (d : Int)) (h1 : 1 ≤ d) (h2 : d ≤ 11) (hy : In64 y) (w : World) :
  Calls Tryz.prog 112 #[.int .i64 D, .int .i64 y] w fun e w' => e = .returned (.int .i64 ((dcZ d y : Nat) : Int)) ∧ w' = w := by
 subst hD
 have d1 : decide ((d : Int) < 1) = false := decide_eq_false (by omega)
 have d2 : decide (11 < (d : Int)) = false := decide_eq_false (by omega)
 have d3 : ¬ (d : Int) < 1 := by omega
 have d4 : ¬ 11 < (d : Int) := by omega
 obtain ⟨t1, t2⟩ := two_le (d := d) (by omega)
 obtain ⟨t3, t4⟩ := two_le (d := d + 1) (by omega)
 obtain ⟨Z, hZ⟩ : ∃ Z : Nat, Z = dcZ d y := ⟨_, rfl⟩
 have HZ : Hid (Z = (6658 * (y % ((2 ^ d : Nat) : Int)).toNat + 2 ^ d) / 2 ^ (d + 1)) := hZ
 rw [← hZ]
 have T1 : Hid (∀ w : World, Calls Tryz.prog 144 #[.int .i64 (d : Int)] w fun e w' => e = .returned (.int .i64 ((2 ^ d : Nat) : Int)) ∧ w' = w) := fun w => twoZ_any d _ rfl (by omega) w
 have T2 : Hid (∀ (w : World) (D : Int), D = (d : Int) + 1 → Calls Tryz.prog 144 #[.int .i64 D] w fun e w' => e = .returned (.int .i64 ((2 ^ (d + 1) : Nat) : Int)) ∧ w' = w) := fun w D h => twoZ_any (d + 1) _ (by omega) (by omega) w
 generalize 2 ^ (d + 1) = S at t3 t4 HZ T2
 generalize 2 ^ d = T at t1 t2 HZ T1
 obtain ⟨r, hr, hr1, hr2, hr3, hr4⟩ := tmod_facts y T t1
 have HR : Hid ((0 ≤ r → r = y % (T : Int)) ∧ (r < 0 → r + (T : Int) = y % (T : Int))) := ⟨hr3, hr4⟩
 have hT0 : (T : Int) ≠ 0 := by omega
 have hT1 : ((T : Int) == 0) = false := by simp; omega
 have hS0 : (S : Int) ≠ 0 := by omega
 have hS1 : ((S : Int) == 0) = false := by simp; omega
 clear hZ hr3 hr4
 obtain ⟨s, hs⟩ : ∃ s : Nat, s = (y % (T : Int)).toNat := ⟨_, rfl⟩
 have hsb : s < T := by
  have h1 := Int.emod_nonneg y hT0
  have h2 := Int.emod_lt_of_pos y (show (0 : Int) < (T : Int) by omega)
  omega
 have HS : Hid ((s : Int) = y % (T : Int)) := by
  have h1 := Int.emod_nonneg y hT0
  show _ = _
  omega
 rw [← hs] at HZ
 have e4 : ((6658 * s + T : Nat) : Int) / (S : Int) = (Z : Int) := by rw [HZ.out, Int.natCast_ediv]
 have hZb : Z ≤ 6658 * s + T := by rw [HZ.out]; exact Nat.div_le_self _ _
 clear hs
 obtain ⟨p, hp⟩ : ∃ p : Nat, p = 6658 * s + T := ⟨_, rfl⟩
 have hpb : p ≤ 30000000 := by omega
 rw [← hp] at e4 hZb
 have e5 : 6658 * (s : Int) + (T : Int) = (p : Int) := by omega
 clear hp HZ
 go_enter Tryz.func112, Tryz.ntmps112
 go_wp2_with fail
 refine (T1.out _).mono ?_
 rintro e w1 ⟨rfl, rfl⟩
 by_cases hneg : r < 0
 ·have d5 : decide (r < 0) = true := decide_eq_true hneg
  have e6 : r + (T : Int) = (s : Int) := by have := HR.out.2 hneg; have := HS.out; omega
  go_wp2_with fail
  refine (T1.out _).mono ?_
  rintro e w2 ⟨rfl, rfl⟩
  go_wp2_with fail
  refine (T1.out _).mono ?_
  rintro e w3 ⟨rfl, rfl⟩
  go_wp2_with fail
  refine (T2.out _ _ (by omega)).mono ?_
  rintro e w4 ⟨rfl, rfl⟩
  go_wp2
  go_ret
  exact ⟨retZ (by first | rfl | omega), rfl⟩
 ·have d5 : decide (r < 0) = false := decide_eq_false hneg
  have e6 : r = (s : Int) := by have := HR.out.1 (by omega); have := HS.out; omega
  subst e6
  go_wp2_with fail
  refine (T1.out _).mono ?_
  rintro e w3 ⟨rfl, rfl⟩
  go_wp2_with fail
  refine (T2.out _ _ (by omega)).mono ?_
  rintro e w4 ⟨rfl, rfl⟩
  go_wp2
  go_ret
  exact ⟨retZ (by first | rfl | omega), rfl⟩

set_option maxRecDepth 100000 in
set_option maxHeartbeats 1000000 in
theorem turnedZ_any (i : Int) (m : Nat) (hm : bits .and .i64 i 127 = (m : Int)) (hm2 : m ≤ 127) (w : World) :
  Calls Tryz.prog 133 #[.int .i64 i] w fun e w' => e = .returned (.int .i64 ((tnJ m 7 : Nat) : Int)) ∧ w' = w := by
 obtain ⟨Z, hZ⟩ : ∃ Z : Nat, Z = tnJ m 7 := ⟨_, rfl⟩
 rw [← hZ]
 have HZ : Hid _ := hZ
 clear hZ
 go_enter Tryz.func133, Tryz.ntmps133
 go_wp2_with fail
 go_loop [0, 3, 4] (fun iv nv jv => ∃ j q n : Nat, j ≤ 7 ∧ iv = .int .i64 (q : Int) ∧ Hid (q = m / 2 ^ j) ∧ q ≤ 127 ∧ nv = .int .i64 (n : Int) ∧ Hid (n = tnJ m j) ∧ n < 128 ∧ jv = .int .i64 (j : Int)) (fun _ _ jv => 7 - (intOf jv).toNat)
 case atStart => exact ⟨0, m, 0, by omega, rfl, by show _ = _; rw [Nat.pow_zero, Nat.div_one], hm2, rfl, rfl, by omega, rfl⟩
 case round =>
  obtain ⟨j, q, n, hj, rfl, HQ, hq, rfl, HN, hn, rfl⟩ := hrel
  by_cases hl : j < 7
  ·have hd : decide ((j : Int) < 7) = true := decide_eq_true (by omega)
   have hjI : (j : Int) < 7 := by omega
   obtain ⟨r, hr⟩ : ∃ r : Nat, r = q % 2 := ⟨_, rfl⟩
   obtain ⟨s, hs⟩ : ∃ s : Nat, s = q / 2 := ⟨_, rfl⟩
   have e1 : (q : Int) % 2 = (r : Int) := by omega
   have e2 : (q : Int) / 2 = (s : Int) := by omega
   have HQ2 : Hid (s = m / 2 ^ (j + 1)) := by show _ = _; rw [hs, HQ.out, Nat.div_div_eq_div_mul, Nat.pow_succ]
   have HN2 : Hid (n * 2 + r = tnJ m (j + 1)) := by show _ = _; rw [HN.out, hr, HQ.out]; rfl
   have hn2 : n * 2 + r < 128 := by
    rw [HN2.out]
    exact Nat.lt_of_lt_of_le (tnJ_lt m (j + 1)) (Nat.le_trans (Nat.pow_le_pow_right (by decide) (show j + 1 ≤ 7 by omega)) (by decide))
   have hs2 : s ≤ 127 := by omega
   have hrb : r < 2 := by omega
   clear hr hs
   go_wp2
   go_round
   case rel => exact ⟨j + 1, s, n * 2 + r, by omega, by go_num, HQ2, hs2, by go_num, HN2, hn2, by go_num⟩
   case measure => simp [intOf] <;> omega
  ·have hje : j = 7 := by omega
   have hd : decide ((j : Int) < 7) = false := decide_eq_false (by omega)
   have hjI : (7 : Int) ≤ (j : Int) := by omega
   have HN2 : Hid (n = Z) := by show _ = _; rw [HZ.out, HN.out, hje]
   clear hje HN
   go_wp2
   go_ret
   exact ⟨retZ (by rw [HN2.out]), rfl⟩

abbrev poV (f : Nat → FZ) : Value := .agg ((gI (fzF f)).map (Value.int .i64)).toArray
theorem poInfo (F : Nat → Int) : (Tryz.prog.info? 57).map (·.size) = some (gI F).length := by rw [gI_length]; kernel_rfl
theorem poMax (F : Nat → Int) : (gI F).length ≤ maxLen := by rw [gI_length]; decide
theorem alloc_po (w : World) : (Instr.alloc 57 true (.tuple #[])).run Tryz.prog w = .ok (.pointer (some ⟨w.heap.size, 0, none⟩)) (w.alloc (.cells ((gI fun _ => 0).map (Value.int .i64)).toArray 57)) := by kernel_rfl
structure Po (F : Nat → Int) : Prop where
 in64 : ∀ k, In64 (F k)
theorem Po.fz (f : Nat → FZ) : Po (fzF f) := ⟨fun k => by have := fzF_lt f k; unfold In64; omega⟩
def rF (F : Nat → Int) (k : Nat) : FZ := nz (rsZ (F k))
theorem rF_val (F : Nat → Int) (k : Nat) : (((rF F k).val : Nat) : Int) = ((rsZ (F k) : Nat) : Int) := by
 have := rsZ_lt (F k)
 unfold rF
 rw [nz_val, Nat.mod_eq_of_lt this]
theorem rF_fz (f : Nat → FZ) : rF (fzF f) = f := by
 funext k
 unfold rF fzF
 rw [rsZ_nat]
 refine Fin.ext ?_
 rw [nz_val, Nat.mod_mod]
 exact Nat.mod_eq_of_lt (f k).isLt
set_option maxRecDepth 100000 in
set_option maxHeartbeats 2000000 in
theorem clean11_any (A : Array Value) (F : Nat → Int) (hF : Po F) (hA : A = ((gI F).map (Value.int .i64)).toArray) (w : World) :
  Calls Tryz.prog 96 #[.agg A] w fun e w' => e = .returned (poV (rF F)) ∧ Below w.heap.size w w' := by
 have HF : Hid (Po F) := hF
 clear hF
 go_enter Tryz.func96, Tryz.ntmps96
 go_wp2_with (refine wpList_box_row (k := .i64) rfl 57 _ rfl (gI F) (by rw [← hA]; rfl) (gI_ne _) (poMax _) ?_)
 intro w1 r1 b1 s1
 rw [gI_length] at r1
 go_wp2_with (refine wpList_alloc_row (k := .i64) rfl 57 rfl (gI fun _ => 0) (alloc_po _) (gI_ne _) (poMax _) ?_)
 intro w2 r2 b2 s2
 rw [gI_length] at r2
 replace r1 := r1.kept b2
 have hbw := stepB b1 b2
 have n1 : w.heap.size < w1.heap.size := by have := s1.out; omega
 clear b1 b2 s1 s2 hA
 go_wp2
 go_loopw [3] (fun iv wx => ∃ (i : Nat) (G : Nat → Int), i ≤ 256 ∧ iv = .int .i64 (i : Int) ∧ Hid (∀ k, k < 256 → G k = if k < i then fzF (rF F) k else F k) ∧ RowAt .i64 57 w.heap.size 256 (gI G) wx ∧ RowAt .i64 57 w1.heap.size 256 (gI fun _ => 0) wx ∧ Below w.heap.size w wx) (fun iv _ => 256 - (intOf iv).toNat)
 case atStart => exact ⟨0, F, by omega, rfl, (by show ∀ k, _; intro k _; rw [if_neg (by omega)]), r1, r2, hbw⟩
 case round =>
  obtain ⟨i, G, hi, rfl, HG, ra, rz, hbx⟩ := hrel
  clear r1 r2 hbw
  by_cases hlt : i < 256
  ·have hd : decide ((i : Int) < 256) = true := decide_eq_true (by omega)
   have hiI : (i : Int) < 256 := by omega
   have hc := ra.cell (j := i) (by rw [gI_length]; exact hlt)
   rw [gI_get _ hlt, HG.out i hlt, if_neg (by omega)] at hc
   have hf := ra.free i
   have r5 := ra.set i ((rsZ (F i) : Nat) : Int)
   rw [gI_set] at r5
   have hw5 := Wrote.set w.heap.size i wr (.int .i64 ((rsZ (F i) : Nat) : Int))
   have R5 : Hid _ := r5
   have RZ : Hid _ := rz.wrote hw5 (by omega)
   have HB5 : Hid _ := hw5.below _ _ (Nat.le_refl _) hbx
   have HG5 : Hid (∀ k, k < 256 → (if k = i then ((rsZ (F i) : Nat) : Int) else G k) = if k < i + 1 then fzF (rF F) k else F k) := by
    show ∀ k, _
    intro k hk
    by_cases h : k = i
    ·rw [if_pos h, if_pos (by omega), h]
     exact (rF_val F i).symm
    ·rw [if_neg h, HG.out k hk]
     by_cases h2 : k < i
     ·rw [if_pos h2, if_pos (by omega)]
     ·rw [if_neg h2, if_neg (by omega)]
   clear r5 hw5 ra rz hbx
   go_wp2_with fail
   refine (modZ_any (F i) (HF.out.in64 i) _).mono ?_
   rintro e w3 ⟨rfl, rfl⟩
   generalize rsZ (F i) = z at R5 RZ HB5 HG5
   go_wp2
   go_roundw
   case rel => exact ⟨i + 1, _, by omega, by go_num, HG5, R5.out, RZ.out, HB5.out⟩
   case measure => simp [intOf] <;> omega
  ·have hie : i = 256 := by omega
   have hd : decide ((i : Int) < 256) = false := decide_eq_false (by omega)
   have hiI : (256 : Int) ≤ (i : Int) := by omega
   have HE : Hid (gI G = gI (fzF (rF F))) := by
    show _ = _
    exact gI_congr fun k hk => by rw [HG.out k hk, if_pos (by omega)]
   rw [HE.out] at ra
   clear hie
   go_wp2_with (first | refine wpList_load_row rfl 57 _ rfl rfl ra _ Tryz.underlying57 rfl (poInfo _) ?_ | (refine wpList_store_row rfl 57 _ _ rfl (gI (fzF (rF F))) rfl rfl rz (by rw [gI_length, gI_length]) (poInfo _) ?_; intro w7 r7 hw7))
   refine bodyPost_row (k := .i64) rfl rfl rfl r7 Tryz.underlying57 rfl (poInfo _) ?_
   exact ⟨rfl, hw7.below _ _ (by omega) hbx⟩
theorem cellB11 {w W : World} {p : Addr} {v : Value} (h : w.cell? p = some v) (hb : Below w.heap.size w W) : W.cell? p = some v := by
 rw [hb.cell (World.block_lt_of_cell? _ _ h)]
 exact h
theorem Wrote.ofdrew11 {g : Nat} {w w' : World} (h : Wrote g w.drew w') : Wrote g w w' := ⟨h.size, h.other, fun B a hB hb => h.below B a hB hb.drew⟩
theorem wp_store_int {e : TypeId} {g cap j : Nat} {l : List Int} {w : World} {op : Oper} {a : Act} {K : Act → World → Prop} {Q : Exit → Act → World → Prop} (x y : Operand) (ho : op.op = .store 3 x y) (hx : a.eval x = .pointer (some ⟨g, j, none⟩)) (X : Int) (hy : a.eval y = .int .i64 X)
  (hr : RowAt .i64 e g cap l w) (hj : j < l.length)
  (h : ∀ w', RowAt .i64 e g cap (l.set j X) w' → Wrote g w w' → K (a.put op.dst undef) w') : op.wp Tryz.prog a w K Q := by
 have hc := hr.cell hj
 have hf := hr.free j
 have h2 := h _ (hr.set j X) (Wrote.set g j w _)
 unfold Oper.wp execOp
 simp only [ho, hx, hy]
 go_simp
 exact h2
theorem wpList_store_int {e : TypeId} {g cap j : Nat} {l : List Int} {w : World} {ops : Array Oper} {rest : List Oper} {op : Oper} {a : Act} {Q : Exit → Act → World → Prop} (hgd : op.guard = none) (x y : Operand) (ho : op.op = .store 3 x y) (hx : a.eval x = .pointer (some ⟨g, j, none⟩)) (X : Int) (hy : a.eval y = .int .i64 X)
  (hr : RowAt .i64 e g cap l w) (hj : j < l.length)
  (h : ∀ w', RowAt .i64 e g cap (l.set j X) w' → Wrote g w w' → wpList Tryz.prog ops Q rest (a.put op.dst undef) w') : wpList Tryz.prog ops Q (op :: rest) a w :=
 wpList_plain hgd fun _ hK => wp_store_int x y ho hx X hy hr hj fun w' h1 h2 => hK _ _ (h w' h1 h2)
theorem pw_pz (x : FZ) (n : Nat) : pwZ ((x.val : Nat) : Int) (n : Int) = (pz x n).val := by
 unfold pwZ
 rw [if_neg (by omega), rsZ_nat, Nat.mod_eq_of_lt x.isLt, Int.toNat_natCast, ← nz_val, pz_nz, nz_self]

set_option maxRecDepth 100000 in
set_option maxHeartbeats 4000000 in
theorem plus11_any (A B : Array Value) (F G : Nat → Int) (hF : Po F) (hG : Po G) (hA : A = ((gI F).map (Value.int .i64)).toArray) (hB : B = ((gI G).map (Value.int .i64)).toArray) (w : World) :
  Calls Tryz.prog 53 #[.agg A, .agg B] w fun e w' => e = .returned (poV fun k => rF F k + rF G k) ∧ Below w.heap.size w w' := by
 have HF : Hid (Po F) := hF
 have HG : Hid (Po G) := hG
 clear hF hG
 go_enter Tryz.func53, Tryz.ntmps53
 go_wp2_with (refine wpList_box_row (k := .i64) rfl 57 _ rfl (gI F) (by rw [← hA]; rfl) (gI_ne _) (poMax _) ?_)
 intro w1 ra bn sn
 rw [gI_length] at ra
 have hbw := bn
 have n1 : w.heap.size < w1.heap.size := by have := sn.out; omega
 clear bn sn hA
 go_wp2_with (refine wpList_box_row (k := .i64) rfl 57 _ rfl (gI G) (by rw [← hB]; rfl) (gI_ne _) (poMax _) ?_)
 intro w2 rb bn sn
 rw [gI_length] at rb
 replace ra := ra.kept bn
 replace hbw := stepB hbw bn
 have n2 : w1.heap.size < w2.heap.size := by have := sn.out; omega
 clear bn sn hB
 go_wp2_with (refine wpList_alloc_row (k := .i64) rfl 57 rfl (gI fun _ => 0) (alloc_po _) (gI_ne _) (poMax _) ?_)
 intro w3 rz bn sn
 rw [gI_length] at rz
 replace ra := ra.kept bn
 replace rb := rb.kept bn
 replace hbw := stepB hbw bn
 have n3 : w2.heap.size < w3.heap.size := by have := sn.out; omega
 clear bn sn
 go_wp2_with (refine wpList_load_row rfl 57 _ rfl rfl ra _ Tryz.underlying57 rfl (poInfo _) ?_)
 refine (clean11_any _ F HF.out rfl _).mono ?_
 rintro e w4 ⟨rfl, bn⟩
 replace ra := ra.kept bn
 replace rb := rb.kept bn
 replace rz := rz.kept bn
 replace hbw := stepB hbw bn
 have n4 := bn.size
 clear bn
 go_wp2_with (refine wpList_store_row rfl 57 _ _ rfl (gI (fzF (rF F))) rfl rfl ra (by rw [gI_length, gI_length]) (poInfo _) ?_)
 intro w5 ra5 hw5
 replace rb := rb.wrote hw5 (by omega)
 replace rz := rz.wrote hw5 (by omega)
 replace hbw := hw5.below _ _ (Nat.le_refl _) hbw
 have n5 : w4.heap.size ≤ w5.heap.size := Nat.le_of_eq hw5.size.symm
 clear ra hw5
 go_wp2_with (refine wpList_load_row rfl 57 _ rfl rfl rb _ Tryz.underlying57 rfl (poInfo _) ?_)
 refine (clean11_any _ G HG.out rfl _).mono ?_
 rintro e w6 ⟨rfl, bn⟩
 replace ra5 := ra5.kept bn
 replace rb := rb.kept bn
 replace rz := rz.kept bn
 replace hbw := stepB hbw bn
 have n6 := bn.size
 clear bn
 go_wp2_with (refine wpList_store_row rfl 57 _ _ rfl (gI (fzF (rF G))) rfl rfl rb (by rw [gI_length, gI_length]) (poInfo _) ?_)
 intro w7 rb7 hw7
 replace ra5 := ra5.wrote hw7 (by omega)
 replace rz := rz.wrote hw7 (by omega)
 replace hbw := hw7.below _ _ (by omega) hbw
 have n7 : w6.heap.size ≤ w7.heap.size := Nat.le_of_eq hw7.size.symm
 clear rb hw7
 obtain ⟨a, ha⟩ : ∃ a : Nat → FZ, a = rF F := ⟨_, rfl⟩
 obtain ⟨b, hb⟩ : ∃ b : Nat → FZ, b = rF G := ⟨_, rfl⟩
 rw [← ha] at ra5
 rw [← hb] at rb7
 have HA : Hid _ := ha
 have HB : Hid _ := hb
 clear ha hb
 go_wp2
 go_loopw [5] (fun iv wx => ∃ (i : Nat) (H : Nat → Int), i ≤ 256 ∧ iv = .int .i64 (i : Int) ∧ Hid (∀ k, k < 256 → H k = if k < i then fzF (fun k => a k + b k) k else fzF a k) ∧ RowAt .i64 57 w.heap.size 256 (gI H) wx ∧ RowAt .i64 57 w1.heap.size 256 (gI (fzF b)) wx ∧ RowAt .i64 57 w2.heap.size 256 (gI fun _ => 0) wx ∧ Below w.heap.size w wx) (fun iv _ => 256 - (intOf iv).toNat)
 case atStart => exact ⟨0, fzF a, by omega, rfl, (by show ∀ k, _; intro k _; rw [if_neg (by omega)]), ra5, rb7, rz, hbw⟩
 case round =>
  obtain ⟨i, H, hi, rfl, HH, ra, rb, rz', hbx⟩ := hrel
  clear ra5 rb7 rz hbw
  by_cases hlt : i < 256
  ·have hd : decide ((i : Int) < 256) = true := decide_eq_true (by omega)
   have hiI : (i : Int) < 256 := by omega
   have hca := ra.cell (j := i) (by rw [gI_length]; exact hlt)
   rw [gI_get _ hlt, HH.out i hlt, if_neg (by omega)] at hca
   have hcb := rb.cell (j := i) (by rw [gI_length]; exact hlt)
   rw [gI_get _ hlt] at hcb
   unfold fzF at hca hcb
   have l1 := (a i).isLt
   have l2 := (b i).isLt
   have HV : Hid ((a i + b i).val = ((a i).val + (b i).val) % 3329) := fz_val_add _ _
   obtain ⟨v, hv⟩ : ∃ v : Nat, v = (a i + b i).val := ⟨_, rfl⟩
   have HHn : Hid (∀ k, k < 256 → (if k = i then ((v : Nat) : Int) else H k) = if k < i + 1 then fzF (fun k => a k + b k) k else fzF a k) := by
    show ∀ k, _
    intro k hk
    by_cases h : k = i
    ·rw [if_pos h, if_pos (by omega), h, hv]
     rfl
    ·rw [if_neg h, HH.out k hk]
     by_cases h2 : k < i
     ·rw [if_pos h2, if_pos (by omega)]
     ·rw [if_neg h2, if_neg (by omega)]
   rw [HV.out] at hv
   clear HV
   generalize (a i).val = p at hca l1 hv
   generalize (b i).val = q at hcb l2 hv
   obtain ⟨s, hs⟩ : ∃ s : Nat, s = p + q := ⟨_, rfl⟩
   have x1 : IntKind.i64.wrap ((p : Int) + (q : Int)) = (s : Int) := by rw [IntWalk.i64_in _ (by omega)]; omega
   have x2 : ((s : Nat) : Int).tmod 3329 = (v : Int) := by rw [Int.tmod_eq_emod_of_nonneg (by omega)]; omega
   have x3 : IntKind.i64.wrap (v : Int) = (v : Int) := IntWalk.i64_in _ (by omega)
   clear hs
   clear hv
   go_wp2_with fail
   have hB : Below wr.heap.size wr wr.drew := (Below.refl _ _).drew
   refine wpF_begin 10 (w0 := wr) (by kernel_rfl) ?_
   refine wpF_p (hb := .inr hB) (i := 0) (oi := ⟨some 14, .move (.tmp 5), 3, "ref.go:19", #[], none⟩) (v := ?_) ?_ ?_
   rotate_left
   ·intro W; go_simp <;> with_reducible rfl
   try simp only [Act.put, putA, putB, putC]
   refine wpF_p (hb := .inr hB) (i := 1) (oi := ⟨some 15, .move (.tmp 5), 3, "ref.go:19", #[], none⟩) (v := ?_) ?_ ?_
   rotate_left
   ·intro W; go_simp <;> with_reducible rfl
   try simp only [Act.put, putA, putB, putC]
   refine wpF_p (hb := .inr hB) (i := 2) (oi := ⟨some 16, .indexAddr 57 (.tmp 2) (.tmp 15), 0, "ref.go:19", #[⟨1, .data⟩], none⟩) (v := ?_) ?_ ?_
   rotate_left
   ·intro W; go_simp <;> with_reducible rfl
   try simp only [Act.put, putA, putB, putC]
   refine wpF_t (hb := hB) (i := 3) (oi := ⟨some 17, .load 3 (.tmp 16), 3, "ref.go:19", #[⟨2, .data⟩], none⟩) (v := ?_) ?_ ?_
   rotate_left
   ·intro W hW; have hcW := cellB11 hca hW; go_simp <;> with_reducible rfl
   try simp only [Act.put, putA, putB, putC]
   refine wpF_p (hb := .inr hB) (i := 4) (oi := ⟨some 18, .move (.tmp 5), 3, "ref.go:19", #[], none⟩) (v := ?_) ?_ ?_
   rotate_left
   ·intro W; go_simp <;> with_reducible rfl
   try simp only [Act.put, putA, putB, putC]
   refine wpF_p (hb := .inr hB) (i := 5) (oi := ⟨some 19, .indexAddr 57 (.tmp 3) (.tmp 18), 0, "ref.go:19", #[⟨4, .data⟩], none⟩) (v := ?_) ?_ ?_
   rotate_left
   ·intro W; go_simp <;> with_reducible rfl
   try simp only [Act.put, putA, putB, putC]
   refine wpF_t (hb := hB) (i := 6) (oi := ⟨some 20, .load 3 (.tmp 19), 3, "ref.go:19", #[⟨5, .data⟩], none⟩) (v := ?_) ?_ ?_
   rotate_left
   ·intro W hW; have hcW := cellB11 hcb hW; go_simp <;> with_reducible rfl
   try simp only [Act.put, putA, putB, putC]
   refine wpF_p (hb := .inr hB) (i := 7) (oi := ⟨some 21, .binOp .add 3 (.tmp 17) (.tmp 20) 3, 3, "ref.go:19", #[⟨3, .data⟩, ⟨6, .data⟩], none⟩) (v := ?_) ?_ ?_
   rotate_left
   ·intro W; go_simp <;> with_reducible rfl
   try simp only [Act.put, putA, putB, putC]
   refine wpF_p (hb := .inr hB) (i := 8) (oi := ⟨some 22, .binOp .rem 3 (.tmp 21) (.const (.int .i64 3329)) 3, 3, "ref.go:19", #[⟨7, .data⟩], none⟩) (v := ?_) ?_ ?_
   rotate_left
   ·intro W; go_simp <;> with_reducible rfl
   try simp only [Act.put, putA, putB, putC]
   refine wpF_p (hb := .inr hB) (i := 9) (oi := ⟨some 23, .indexAddr 57 (.tmp 2) (.tmp 14), 0, "ref.go:19", #[⟨0, .data⟩, ⟨0, .phase⟩, ⟨1, .phase⟩, ⟨2, .phase⟩, ⟨3, .phase⟩, ⟨4, .phase⟩, ⟨5, .phase⟩, ⟨6, .phase⟩, ⟨7, .phase⟩, ⟨8, .phase⟩], none⟩) (v := ?_) ?_ ?_
   rotate_left
   ·intro W; go_simp <;> with_reducible rfl
   try simp only [Act.put, putA, putB, putC]
   refine wpF_do (i := 10) (o := ⟨none, .store 3 (.tmp 23) (.tmp 22), 0, "ref.go:19", #[⟨9, .data⟩, ⟨8, .data⟩, ⟨0, .phase⟩, ⟨1, .phase⟩, ⟨2, .phase⟩, ⟨3, .phase⟩, ⟨4, .phase⟩, ⟨5, .phase⟩, ⟨6, .phase⟩, ⟨7, .phase⟩, ⟨8, .phase⟩], none⟩) (by kernel_rfl) rfl (by rfl) fun K hK => ?_
   refine wp_store_int _ _ (by rfl) (by rfl) (v : Int) (by rfl) ra.drew (by rw [gI_length]; exact hlt) ?_
   intro w8 r8 hw8
   rw [gI_set] at r8
   refine hK.out _ _ (.inl rfl) ?_
   clear hK K
   try simp only [Act.put, putA, putB, putC]
   refine wpF_done (by kernel_rfl) ?_
   have hw9 := hw8.ofdrew11
   have rb9 := rb.wrote hw9 (by omega)
   have rz9 := rz'.wrote hw9 (by omega)
   have hb9 := hw9.below _ _ (Nat.le_refl _) hbx
   clear ra rb rz' hbx hca hcb hw8 hw9
   go_wp2
   go_roundw
   case rel => exact ⟨i + 1, _, by omega, by go_num, HHn, r8, rb9, rz9, hb9⟩
   case measure => simp [intOf] <;> omega
  ·have hie : i = 256 := by omega
   have hd : decide ((i : Int) < 256) = false := decide_eq_false (by omega)
   have hiI : (256 : Int) ≤ (i : Int) := by omega
   have HE : Hid (gI H = gI (fzF fun k => a k + b k)) := by
    show _ = _
    exact gI_congr fun k hk => by rw [HH.out k hk, if_pos (by omega)]
   clear hie
   rw [HE.out] at ra
   go_wp2_with (first | refine wpList_load_row rfl 57 _ rfl rfl ra _ Tryz.underlying57 rfl (poInfo _) ?_ | (refine wpList_store_row rfl 57 _ _ rfl (gI (fzF fun k => a k + b k)) rfl rfl rz' (by rw [gI_length, gI_length]) (poInfo _) ?_; intro w9 r9 hw9))
   refine bodyPost_row (k := .i64) rfl rfl rfl r9 Tryz.underlying57 rfl (poInfo _) ?_
   exact ⟨by rw [HA.out, HB.out], hw9.below _ _ (by omega) hbx⟩

set_option maxRecDepth 100000 in
set_option maxHeartbeats 4000000 in
theorem minus11_any (A B : Array Value) (F G : Nat → Int) (hF : Po F) (hG : Po G) (hA : A = ((gI F).map (Value.int .i64)).toArray) (hB : B = ((gI G).map (Value.int .i64)).toArray) (w : World) :
  Calls Tryz.prog 77 #[.agg A, .agg B] w fun e w' => e = .returned (poV fun k => rF F k - rF G k) ∧ Below w.heap.size w w' := by
 have HF : Hid (Po F) := hF
 have HG : Hid (Po G) := hG
 clear hF hG
 go_enter Tryz.func77, Tryz.ntmps77
 go_wp2_with (refine wpList_box_row (k := .i64) rfl 57 _ rfl (gI F) (by rw [← hA]; rfl) (gI_ne _) (poMax _) ?_)
 intro w1 ra bn sn
 rw [gI_length] at ra
 have hbw := bn
 have n1 : w.heap.size < w1.heap.size := by have := sn.out; omega
 clear bn sn hA
 go_wp2_with (refine wpList_box_row (k := .i64) rfl 57 _ rfl (gI G) (by rw [← hB]; rfl) (gI_ne _) (poMax _) ?_)
 intro w2 rb bn sn
 rw [gI_length] at rb
 replace ra := ra.kept bn
 replace hbw := stepB hbw bn
 have n2 : w1.heap.size < w2.heap.size := by have := sn.out; omega
 clear bn sn hB
 go_wp2_with (refine wpList_alloc_row (k := .i64) rfl 57 rfl (gI fun _ => 0) (alloc_po _) (gI_ne _) (poMax _) ?_)
 intro w3 rz bn sn
 rw [gI_length] at rz
 replace ra := ra.kept bn
 replace rb := rb.kept bn
 replace hbw := stepB hbw bn
 have n3 : w2.heap.size < w3.heap.size := by have := sn.out; omega
 clear bn sn
 go_wp2_with (refine wpList_load_row rfl 57 _ rfl rfl ra _ Tryz.underlying57 rfl (poInfo _) ?_)
 refine (clean11_any _ F HF.out rfl _).mono ?_
 rintro e w4 ⟨rfl, bn⟩
 replace ra := ra.kept bn
 replace rb := rb.kept bn
 replace rz := rz.kept bn
 replace hbw := stepB hbw bn
 have n4 := bn.size
 clear bn
 go_wp2_with (refine wpList_store_row rfl 57 _ _ rfl (gI (fzF (rF F))) rfl rfl ra (by rw [gI_length, gI_length]) (poInfo _) ?_)
 intro w5 ra5 hw5
 replace rb := rb.wrote hw5 (by omega)
 replace rz := rz.wrote hw5 (by omega)
 replace hbw := hw5.below _ _ (Nat.le_refl _) hbw
 have n5 : w4.heap.size ≤ w5.heap.size := Nat.le_of_eq hw5.size.symm
 clear ra hw5
 go_wp2_with (refine wpList_load_row rfl 57 _ rfl rfl rb _ Tryz.underlying57 rfl (poInfo _) ?_)
 refine (clean11_any _ G HG.out rfl _).mono ?_
 rintro e w6 ⟨rfl, bn⟩
 replace ra5 := ra5.kept bn
 replace rb := rb.kept bn
 replace rz := rz.kept bn
 replace hbw := stepB hbw bn
 have n6 := bn.size
 clear bn
 go_wp2_with (refine wpList_store_row rfl 57 _ _ rfl (gI (fzF (rF G))) rfl rfl rb (by rw [gI_length, gI_length]) (poInfo _) ?_)
 intro w7 rb7 hw7
 replace ra5 := ra5.wrote hw7 (by omega)
 replace rz := rz.wrote hw7 (by omega)
 replace hbw := hw7.below _ _ (by omega) hbw
 have n7 : w6.heap.size ≤ w7.heap.size := Nat.le_of_eq hw7.size.symm
 clear rb hw7
 obtain ⟨a, ha⟩ : ∃ a : Nat → FZ, a = rF F := ⟨_, rfl⟩
 obtain ⟨b, hb⟩ : ∃ b : Nat → FZ, b = rF G := ⟨_, rfl⟩
 rw [← ha] at ra5
 rw [← hb] at rb7
 have HA : Hid _ := ha
 have HB : Hid _ := hb
 clear ha hb
 go_wp2
 go_loopw [5] (fun iv wx => ∃ (i : Nat) (H : Nat → Int), i ≤ 256 ∧ iv = .int .i64 (i : Int) ∧ Hid (∀ k, k < 256 → H k = if k < i then fzF (fun k => a k - b k) k else fzF a k) ∧ RowAt .i64 57 w.heap.size 256 (gI H) wx ∧ RowAt .i64 57 w1.heap.size 256 (gI (fzF b)) wx ∧ RowAt .i64 57 w2.heap.size 256 (gI fun _ => 0) wx ∧ Below w.heap.size w wx) (fun iv _ => 256 - (intOf iv).toNat)
 case atStart => exact ⟨0, fzF a, by omega, rfl, (by show ∀ k, _; intro k _; rw [if_neg (by omega)]), ra5, rb7, rz, hbw⟩
 case round =>
  obtain ⟨i, H, hi, rfl, HH, ra, rb, rz', hbx⟩ := hrel
  clear ra5 rb7 rz hbw
  by_cases hlt : i < 256
  ·have hd : decide ((i : Int) < 256) = true := decide_eq_true (by omega)
   have hiI : (i : Int) < 256 := by omega
   have hca := ra.cell (j := i) (by rw [gI_length]; exact hlt)
   rw [gI_get _ hlt, HH.out i hlt, if_neg (by omega)] at hca
   have hcb := rb.cell (j := i) (by rw [gI_length]; exact hlt)
   rw [gI_get _ hlt] at hcb
   unfold fzF at hca hcb
   have l1 := (a i).isLt
   have l2 := (b i).isLt
   have HV : Hid ((a i - b i).val = ((a i).val + 3329 - (b i).val) % 3329) := fz_val_sub _ _
   obtain ⟨v, hv⟩ : ∃ v : Nat, v = (a i - b i).val := ⟨_, rfl⟩
   have HHn : Hid (∀ k, k < 256 → (if k = i then ((v : Nat) : Int) else H k) = if k < i + 1 then fzF (fun k => a k - b k) k else fzF a k) := by
    show ∀ k, _
    intro k hk
    by_cases h : k = i
    ·rw [if_pos h, if_pos (by omega), h, hv]
     rfl
    ·rw [if_neg h, HH.out k hk]
     by_cases h2 : k < i
     ·rw [if_pos h2, if_pos (by omega)]
     ·rw [if_neg h2, if_neg (by omega)]
   rw [HV.out] at hv
   clear HV
   generalize (a i).val = p at hca l1 hv
   generalize (b i).val = q at hcb l2 hv
   obtain ⟨s, hs⟩ : ∃ s : Nat, s = p + 3329 := ⟨_, rfl⟩
   obtain ⟨t, ht⟩ : ∃ t : Nat, t = s - q := ⟨_, rfl⟩
   have x1 : IntKind.i64.wrap ((p : Int) + 3329) = (s : Int) := by rw [IntWalk.i64_in _ (by omega)]; omega
   have x2 : IntKind.i64.wrap ((s : Int) - (q : Int)) = (t : Int) := by rw [IntWalk.i64_in _ (by omega)]; omega
   have x3 : ((t : Nat) : Int).tmod 3329 = (v : Int) := by rw [Int.tmod_eq_emod_of_nonneg (by omega)]; omega
   have x4 : IntKind.i64.wrap (v : Int) = (v : Int) := IntWalk.i64_in _ (by omega)
   clear hs ht
   clear hv
   go_wp2_with fail
   have hB : Below wr.heap.size wr wr.drew := (Below.refl _ _).drew
   refine wpF_begin 11 (w0 := wr) (by kernel_rfl) ?_
   refine wpF_p (hb := .inr hB) (i := 0) (oi := ⟨some 14, .move (.tmp 5), 3, "ref.go:29", #[], none⟩) (v := ?_) ?_ ?_
   rotate_left
   ·intro W; go_simp <;> with_reducible rfl
   try simp only [Act.put, putA, putB, putC]
   refine wpF_p (hb := .inr hB) (i := 1) (oi := ⟨some 15, .move (.tmp 5), 3, "ref.go:29", #[], none⟩) (v := ?_) ?_ ?_
   rotate_left
   ·intro W; go_simp <;> with_reducible rfl
   try simp only [Act.put, putA, putB, putC]
   refine wpF_p (hb := .inr hB) (i := 2) (oi := ⟨some 16, .indexAddr 57 (.tmp 2) (.tmp 15), 0, "ref.go:29", #[⟨1, .data⟩], none⟩) (v := ?_) ?_ ?_
   rotate_left
   ·intro W; go_simp <;> with_reducible rfl
   try simp only [Act.put, putA, putB, putC]
   refine wpF_t (hb := hB) (i := 3) (oi := ⟨some 17, .load 3 (.tmp 16), 3, "ref.go:29", #[⟨2, .data⟩], none⟩) (v := ?_) ?_ ?_
   rotate_left
   ·intro W hW; have hcW := cellB11 hca hW; go_simp <;> with_reducible rfl
   try simp only [Act.put, putA, putB, putC]
   refine wpF_p (hb := .inr hB) (i := 4) (oi := ⟨some 18, .binOp .add 3 (.tmp 17) (.const (.int .i64 3329)) 3, 3, "ref.go:29", #[⟨3, .data⟩], none⟩) (v := ?_) ?_ ?_
   rotate_left
   ·intro W; go_simp <;> with_reducible rfl
   try simp only [Act.put, putA, putB, putC]
   refine wpF_p (hb := .inr hB) (i := 5) (oi := ⟨some 19, .move (.tmp 5), 3, "ref.go:29", #[], none⟩) (v := ?_) ?_ ?_
   rotate_left
   ·intro W; go_simp <;> with_reducible rfl
   try simp only [Act.put, putA, putB, putC]
   refine wpF_p (hb := .inr hB) (i := 6) (oi := ⟨some 20, .indexAddr 57 (.tmp 3) (.tmp 19), 0, "ref.go:29", #[⟨5, .data⟩], none⟩) (v := ?_) ?_ ?_
   rotate_left
   ·intro W; go_simp <;> with_reducible rfl
   try simp only [Act.put, putA, putB, putC]
   refine wpF_t (hb := hB) (i := 7) (oi := ⟨some 21, .load 3 (.tmp 20), 3, "ref.go:29", #[⟨6, .data⟩], none⟩) (v := ?_) ?_ ?_
   rotate_left
   ·intro W hW; have hcW := cellB11 hcb hW; go_simp <;> with_reducible rfl
   try simp only [Act.put, putA, putB, putC]
   refine wpF_p (hb := .inr hB) (i := 8) (oi := ⟨some 22, .binOp .sub 3 (.tmp 18) (.tmp 21) 3, 3, "ref.go:29", #[⟨4, .data⟩, ⟨7, .data⟩], none⟩) (v := ?_) ?_ ?_
   rotate_left
   ·intro W; go_simp <;> with_reducible rfl
   try simp only [Act.put, putA, putB, putC]
   refine wpF_p (hb := .inr hB) (i := 9) (oi := ⟨some 23, .binOp .rem 3 (.tmp 22) (.const (.int .i64 3329)) 3, 3, "ref.go:29", #[⟨8, .data⟩], none⟩) (v := ?_) ?_ ?_
   rotate_left
   ·intro W; go_simp <;> with_reducible rfl
   try simp only [Act.put, putA, putB, putC]
   refine wpF_p (hb := .inr hB) (i := 10) (oi := ⟨some 24, .indexAddr 57 (.tmp 2) (.tmp 14), 0, "ref.go:29", #[⟨0, .data⟩, ⟨0, .phase⟩, ⟨1, .phase⟩, ⟨2, .phase⟩, ⟨3, .phase⟩, ⟨4, .phase⟩, ⟨5, .phase⟩, ⟨6, .phase⟩, ⟨7, .phase⟩, ⟨8, .phase⟩, ⟨9, .phase⟩], none⟩) (v := ?_) ?_ ?_
   rotate_left
   ·intro W; go_simp <;> with_reducible rfl
   try simp only [Act.put, putA, putB, putC]
   refine wpF_do (i := 11) (o := ⟨none, .store 3 (.tmp 24) (.tmp 23), 0, "ref.go:29", #[⟨10, .data⟩, ⟨9, .data⟩, ⟨0, .phase⟩, ⟨1, .phase⟩, ⟨2, .phase⟩, ⟨3, .phase⟩, ⟨4, .phase⟩, ⟨5, .phase⟩, ⟨6, .phase⟩, ⟨7, .phase⟩, ⟨8, .phase⟩, ⟨9, .phase⟩], none⟩) (by kernel_rfl) rfl (by rfl) fun K hK => ?_
   refine wp_store_int _ _ (by rfl) (by rfl) (v : Int) (by rfl) ra.drew (by rw [gI_length]; exact hlt) ?_
   intro w8 r8 hw8
   rw [gI_set] at r8
   refine hK.out _ _ (.inl rfl) ?_
   clear hK K
   try simp only [Act.put, putA, putB, putC]
   refine wpF_done (by kernel_rfl) ?_
   have hw9 := hw8.ofdrew11
   have rb9 := rb.wrote hw9 (by omega)
   have rz9 := rz'.wrote hw9 (by omega)
   have hb9 := hw9.below _ _ (Nat.le_refl _) hbx
   clear ra rb rz' hbx hca hcb hw8 hw9
   go_wp2
   go_roundw
   case rel => exact ⟨i + 1, _, by omega, by go_num, HHn, r8, rb9, rz9, hb9⟩
   case measure => simp [intOf] <;> omega
  ·have hie : i = 256 := by omega
   have hd : decide ((i : Int) < 256) = false := decide_eq_false (by omega)
   have hiI : (256 : Int) ≤ (i : Int) := by omega
   have HE : Hid (gI H = gI (fzF fun k => a k - b k)) := by
    show _ = _
    exact gI_congr fun k hk => by rw [HH.out k hk, if_pos (by omega)]
   clear hie
   rw [HE.out] at ra
   go_wp2_with (first | refine wpList_load_row rfl 57 _ rfl rfl ra _ Tryz.underlying57 rfl (poInfo _) ?_ | (refine wpList_store_row rfl 57 _ _ rfl (gI (fzF fun k => a k - b k)) rfl rfl rz' (by rw [gI_length, gI_length]) (poInfo _) ?_; intro w9 r9 hw9))
   refine bodyPost_row (k := .i64) rfl rfl rfl r9 Tryz.underlying57 rfl (poInfo _) ?_
   exact ⟨by rw [HA.out, HB.out], hw9.below _ _ (by omega) hbx⟩

set_option maxRecDepth 100000 in
set_option maxHeartbeats 1000000 in
theorem root11_any (i : Nat) (hi : i < 128) (I : Int) (hI : I = (i : Int)) (w : World) :
  Calls Tryz.prog 97 #[.int .i64 I] w fun e w' => e = .returned (.int .i64 (((zr i).val : Nat) : Int)) ∧ w' = w := by
 subst hI
 have hm : bits .and .i64 (i : Int) 127 = (i : Int) := by
  have h : ∀ i : Fin 128, bits .and .i64 ((i.val : Nat) : Int) 127 = ((i.val : Nat) : Int) := by decide +kernel
  exact h ⟨i, hi⟩
 have hb : tnJ i 7 < 128 := tnJ_lt i 7
 have HP : Hid (pwZ 17 ((2 * tnJ i 7 + 1 : Nat) : Int) = (zr i).val) := by
  show _ = _
  unfold pwZ zr
  rw [if_neg (by omega), ← show nz 17 = (17 : FZ) from rfl, ← pz_nz, nz_val]
  rfl
 go_enter Tryz.func97, Tryz.ntmps97
 go_wp2_with fail
 refine (turnedZ_any (i : Int) i hm (by omega) _).mono ?_
 rintro e w1 ⟨rfl, rfl⟩
 generalize tnJ i 7 = t at hb HP
 obtain ⟨d, hd⟩ : ∃ d : Nat, d = 2 * t := ⟨_, rfl⟩
 obtain ⟨s, hs⟩ : ∃ s : Nat, s = 2 * t + 1 := ⟨_, rfl⟩
 have x1 : IntKind.i64.wrap (2 * (t : Int)) = (d : Int) := by rw [IntWalk.i64_in _ (by omega)]; omega
 have x2 : IntKind.i64.wrap ((d : Int) + 1) = (s : Int) := by rw [IntWalk.i64_in _ (by omega)]; omega
 have hs2 : s ≤ 300 := by omega
 rw [← hs] at HP
 clear hd hs hm
 go_wp2_with fail
 refine (powerZ_any 17 (s : Int) (by decide) ⟨by omega, by omega⟩ _).mono ?_
 rintro e w2 ⟨rfl, rfl⟩
 rw [HP.out]
 go_wp2
 go_ret
 exact ⟨rfl, rfl⟩
theorem fz_mulplus (x y p : FZ) : (x * y + p).val = (x.val * y.val + p.val) % 3329 := by
 rw [fz_val_add, fz_val_mul]
 omega
theorem horner_facts (x y p : FZ) : ∃ m s v : Nat, v = (x * y + p).val ∧ IntKind.i64.wrap (((x.val : Nat) : Int) * ((y.val : Nat) : Int)) = (m : Int) ∧ IntKind.i64.wrap ((m : Int) + ((p.val : Nat) : Int)) = (s : Int) ∧ ((s : Nat) : Int).tmod 3329 = (v : Int) ∧ IntKind.i64.wrap (v : Int) = (v : Int) := by
 have h1 := mul_lt_fz x y
 have h2 := p.isLt
 have h3 := fz_mulplus x y p
 refine ⟨x.val * y.val, x.val * y.val + p.val, _, rfl, ?_, ?_, ?_, ?_⟩
 ·rw [← Int.natCast_mul]
  exact IntWalk.i64_in _ (by omega)
 ·exact IntWalk.i64_in _ (by omega)
 ·rw [Int.tmod_eq_emod_of_nonneg (by omega), h3]
  omega
 ·exact IntWalk.i64_in _ (by omega)
theorem two_facts (i : Nat) (hi : i < 128) : ∃ e o : Nat, e = 2 * i ∧ o = 2 * i + 1 ∧ IntKind.i64.wrap (2 * (i : Int)) = (e : Int) ∧ IntKind.i64.wrap ((e : Int) + 1) = (o : Int) ∧ e < 256 ∧ o < 256 ∧ (e : Int) < 256 ∧ (o : Int) < 256 := by
 refine ⟨2 * i, 2 * i + 1, rfl, rfl, ?_, ?_, by omega, by omega, by omega, by omega⟩
 ·rw [IntWalk.i64_in _ (by omega)]; omega
 ·rw [IntWalk.i64_in _ (by omega)]; omega

set_option maxRecDepth 100000 in
set_option maxHeartbeats 4000000 in
theorem forward11_any (A : Array Value) (F : Nat → Int) (hF : Po F) (hA : A = ((gI F).map (Value.int .i64)).toArray) (w : World) :
  Calls Tryz.prog 50 #[.agg A] w fun e w' => e = .returned (poV (fwd (rF F))) ∧ Below w.heap.size w w' := by
 have HF : Hid (Po F) := hF
 clear hF
 go_enter Tryz.func50, Tryz.ntmps50
 go_wp2_with (refine wpList_box_row (k := .i64) rfl 57 _ rfl (gI F) (by rw [← hA]; rfl) (gI_ne _) (poMax _) ?_)
 intro w1 ra bn sn
 rw [gI_length] at ra
 have hbw := bn
 have n1 : w.heap.size < w1.heap.size := by have := sn.out; omega
 clear bn sn hA
 go_wp2_with (refine wpList_alloc_row (k := .i64) rfl 57 rfl (gI fun _ => 0) (alloc_po _) (gI_ne _) (poMax _) ?_)
 intro w2 rz bn sn
 rw [gI_length] at rz
 replace ra := ra.kept bn
 replace hbw := stepB hbw bn
 have n2 : w1.heap.size < w2.heap.size := by have := sn.out; omega
 clear bn sn
 go_wp2_with (refine wpList_load_row rfl 57 _ rfl rfl ra _ Tryz.underlying57 rfl (poInfo _) ?_)
 refine (clean11_any _ F HF.out rfl _).mono ?_
 rintro e w4 ⟨rfl, bn⟩
 replace ra := ra.kept bn
 replace rz := rz.kept bn
 replace hbw := stepB hbw bn
 have n4 := bn.size
 clear bn
 go_wp2_with (refine wpList_store_row rfl 57 _ _ rfl (gI (fzF (rF F))) rfl rfl ra (by rw [gI_length, gI_length]) (poInfo _) ?_)
 intro w5 ra5 hw5
 replace rz := rz.wrote hw5 (by omega)
 replace hbw := hw5.below _ _ (Nat.le_refl _) hbw
 have n5 : w4.heap.size ≤ w5.heap.size := Nat.le_of_eq hw5.size.symm
 clear ra hw5
 obtain ⟨a, ha⟩ : ∃ a : Nat → FZ, a = rF F := ⟨_, rfl⟩
 rw [← ha] at ra5
 have HA : Hid _ := ha
 clear ha
 go_wp2_with (refine wpList_alloc_row (k := .i64) rfl 57 rfl (gI fun _ => 0) (alloc_po _) (gI_ne _) (poMax _) ?_)
 intro w6 ro bn sn
 rw [gI_length] at ro
 replace ra5 := ra5.kept bn
 replace rz := rz.kept bn
 replace hbw := stepB hbw bn
 have n6 : w5.heap.size < w6.heap.size := by have := sn.out; omega
 clear bn sn
 go_wp2
 go_loopw [4] (fun iv wx => ∃ (i : Nat) (H : Nat → Int), i ≤ 128 ∧ iv = .int .i64 (i : Int) ∧ Hid (∀ k, k < 256 → H k = if k < 2 * i then fzF (fwd a) k else 0) ∧ RowAt .i64 57 w.heap.size 256 (gI (fzF a)) wx ∧ RowAt .i64 57 w1.heap.size 256 (gI fun _ => 0) wx ∧ RowAt .i64 57 w5.heap.size 256 (gI H) wx ∧ Below w.heap.size w wx) (fun iv _ => 128 - (intOf iv).toNat)
 case atStart => exact ⟨0, fun _ => 0, by omega, rfl, (by show ∀ k, _; intro k _; rw [if_neg (by omega)]), ra5, rz, ro, hbw⟩
 case round =>
  obtain ⟨i, H, hi, rfl, HH, ra, rz', ro', hbx⟩ := hrel
  clear ra5 rz ro hbw
  by_cases hlt : i < 128
  ·have hd : decide ((i : Int) < 128) = true := decide_eq_true (by omega)
   have hiI : (i : Int) < 128 := by omega
   have HC : Hid (∀ k, k < 256 → wr.cell? ⟨w.heap.size, k, none⟩ = some (.int .i64 ((((a k).val : Nat) : Int)))) := by
    show ∀ k, _
    intro k hk
    have := ra.cell (j := k) (by rw [gI_length]; exact hk)
    rw [gI_get _ hk] at this
    exact this
   go_wp2_with fail
   refine (root11_any i hlt _ rfl _).mono ?_
   rintro e wq ⟨rfl, rfl⟩
   obtain ⟨z, hz⟩ : ∃ z : FZ, z = zr i := ⟨_, rfl⟩
   rw [← hz]
   have HZ : Hid _ := hz
   clear hz
   rename World => wv
   go_wp2
   go_loop [6, 7, 8] (fun av bv' jv => ∃ m : Nat, m ≤ 128 ∧ jv = .int .i64 ((m : Int) - 1) ∧ av = .int .i64 (((hnr a 0 z m).val : Nat) : Int) ∧ bv' = .int .i64 (((hnr a 1 z m).val : Nat) : Int)) (fun _ _ jv => (intOf jv + 1).toNat)
   case atStart => exact ⟨128, by omega, rfl, rfl, rfl⟩
   case round =>
    obtain ⟨m, hm, rfl, rfl, rfl⟩ := hrel
    by_cases h0 : m = 0
    ·obtain ⟨ja, hja⟩ : ∃ x : Nat, x = (hnr a 0 z m).val := ⟨_, rfl⟩
     obtain ⟨jb, hjb⟩ : ∃ x : Nat, x = (hnr a 1 z m).val := ⟨_, rfl⟩
     rw [← hja, ← hjb]
     have hj1 : ((m : Int) - 1) = -1 := by omega
     rw [hj1]
     obtain ⟨e, o, he, ho, x1, x2, l1, l2, l3, l4⟩ := two_facts i hlt
     have HHn : Hid (∀ k, k < 256 → (if k = o then ((jb : Nat) : Int) else if k = e then ((ja : Nat) : Int) else H k) = if k < 2 * (i + 1) then fzF (fwd a) k else 0) := by
      show ∀ k, _
      intro k hk
      by_cases h1 : k = o
      ·rw [if_pos h1, if_pos (by omega), hjb, h0, hnr_all, h1, HZ.out]
       unfold fzF fwd
       rw [show o % 2 = 1 by omega, show o / 2 = i by omega]
      ·rw [if_neg h1]
       by_cases h2 : k = e
       ·rw [if_pos h2, if_pos (by omega), hja, h0, hnr_all, h2, HZ.out]
        unfold fzF fwd
        rw [show e % 2 = 0 by omega, show e / 2 = i by omega]
       ·rw [if_neg h2, HH.out k hk]
        by_cases h3 : k < 2 * i
        ·rw [if_pos h3, if_pos (by omega)]
        ·rw [if_neg h3, if_neg (by omega)]
     have HL1 : Hid (e < 256) := l1
     have HL2 : Hid (o < 256) := l2
     clear he ho hja hjb h0 hj1 hm HC
     go_wp2_with (refine wpList_store_int rfl _ _ rfl rfl _ rfl ro' (by rw [gI_length]; exact HL1.out) ?_)
     intro w8 r8 hw8
     rw [gI_set] at r8
     replace ra := ra.wrote hw8 (by omega)
     replace rz' := rz'.wrote hw8 (by omega)
     replace hbx := hw8.below _ _ (by omega) hbx
     clear hw8 ro'
     go_wp2_with (refine wpList_store_int rfl _ _ rfl rfl _ rfl r8 (by rw [gI_length]; exact HL2.out) ?_)
     intro w9 r9 hw9
     rw [gI_set] at r9
     replace ra := ra.wrote hw9 (by omega)
     replace rz' := rz'.wrote hw9 (by omega)
     replace hbx := hw9.below _ _ (by omega) hbx
     clear hw9 r8
     go_wp2
     go_roundw
     case rel => exact ⟨i + 1, _, by omega, by go_num, HHn, ra, rz', r9, hbx⟩
     case measure => simp [intOf] <;> omega
    ·obtain ⟨j, rfl⟩ : ∃ j, m = j + 1 := ⟨m - 1, by omega⟩
     have hj : j < 128 := by omega
     have hjI : (((j + 1 : Nat) : Int) - 1) = (j : Int) := by omega
     rw [hjI]
     have hd0 : decide ((0 : Int) ≤ (j : Int)) = true := decide_eq_true (by omega)
     obtain ⟨e, o, he, ho, x1, x2, l1, l2, l3, l4⟩ := two_facts j hj
     have c0 := HC.out e l1
     have c1 := HC.out o l2
     have s0 := hnr_step a 0 z j hj
     have s1 := hnr_step a 1 z j hj
     rw [show 0 + 2 * j = e by omega] at s0
     rw [show 1 + 2 * j = o by omega] at s1
     obtain ⟨m0, t0, v0, hv0, y1, y2, y3, y4⟩ := horner_facts (hnr a 0 z (j + 1)) z (a e)
     obtain ⟨m1, t1, v1, hv1, u1, u2, u3, u4⟩ := horner_facts (hnr a 1 z (j + 1)) z (a o)
     rw [← s0] at hv0
     rw [← s1] at hv1
     have HV0 : Hid _ := hv0
     have HV1 : Hid _ := hv1
     generalize (hnr a 0 z (j + 1)).val = A0 at y1 ⊢
     generalize (hnr a 1 z (j + 1)).val = A1 at u1 ⊢
     generalize (a e).val = p0 at c0 y2
     generalize (a o).val = p1 at c1 u2
     clear he ho s0 s1 hv0 hv1 hjI h0 hm
     go_wp2
     go_round
     case rel => exact ⟨j, by omega, by go_num, by rw [← HV0.out], by rw [← HV1.out]⟩
     case measure => simp [intOf] <;> omega
  ·have hie : i = 128 := by omega
   have hd : decide ((i : Int) < 128) = false := decide_eq_false (by omega)
   have hiI : (128 : Int) ≤ (i : Int) := by omega
   have HE : Hid (gI H = gI (fzF (fwd a))) := by
    show _ = _
    exact gI_congr fun k hk => by rw [HH.out k hk, if_pos (by omega)]
   clear hie
   rw [HE.out] at ro'
   go_wp2_with (first | refine wpList_load_row rfl 57 _ rfl rfl ro' _ Tryz.underlying57 rfl (poInfo _) ?_ | (refine wpList_store_row rfl 57 _ _ rfl (gI (fzF (fwd a))) rfl rfl rz' (by rw [gI_length, gI_length]) (poInfo _) ?_; intro w9 r9 hw9))
   refine bodyPost_row (k := .i64) rfl rfl rfl r9 Tryz.underlying57 rfl (poInfo _) ?_
   exact ⟨by rw [HA.out], hw9.below _ _ (by omega) hbx⟩
def inS (g : Nat → FZ) (n p : Nat) : FZ := sm n fun i => g (2 * i + p % 2) * (3303 * pz (zi i) (p / 2))
theorem inS_next (g : Nat → FZ) (n p : Nat) : inS g (n + 1) p = inS g n p + g (2 * n + p % 2) * (3303 * pz (zi n) (p / 2)) := rfl
theorem kz_first (r : FZ) : (3303 * pz r 0).val = 3303 := rfl
theorem kz_next (r : FZ) (j : Nat) : 3303 * pz r (j + 1) = 3303 * pz r j * r := by
 rw [pz_succ]
 generalize pz r j = a
 grind -lia
theorem muladd_facts (p x y : FZ) : ∃ m s v : Nat, v = (p + x * y).val ∧ IntKind.i64.wrap (((x.val : Nat) : Int) * ((y.val : Nat) : Int)) = (m : Int) ∧ IntKind.i64.wrap (((p.val : Nat) : Int) + (m : Int)) = (s : Int) ∧ ((s : Nat) : Int).tmod 3329 = (v : Int) ∧ IntKind.i64.wrap (v : Int) = (v : Int) := by
 have h1 := mul_lt_fz x y
 have h2 := p.isLt
 have h3 := fz_muladd p x y
 refine ⟨x.val * y.val, p.val + x.val * y.val, _, rfl, ?_, ?_, ?_, ?_⟩
 ·rw [← Int.natCast_mul]
  exact IntWalk.i64_in _ (by omega)
 ·exact IntWalk.i64_in _ (by omega)
 ·rw [Int.tmod_eq_emod_of_nonneg (by omega), h3]
  omega
 ·exact IntWalk.i64_in _ (by omega)
theorem mul_facts (x y : FZ) : ∃ m v : Nat, v = (x * y).val ∧ IntKind.i64.wrap (((x.val : Nat) : Int) * ((y.val : Nat) : Int)) = (m : Int) ∧ ((m : Nat) : Int).tmod 3329 = (v : Int) ∧ IntKind.i64.wrap (v : Int) = (v : Int) := by
 have h1 := mul_lt_fz x y
 have h3 := fz_val_mul x y
 refine ⟨x.val * y.val, _, rfl, ?_, ?_, ?_⟩
 ·rw [← Int.natCast_mul]
  exact IntWalk.i64_in _ (by omega)
 ·rw [Int.tmod_eq_emod_of_nonneg (by omega), h3]
  omega
 ·exact IntWalk.i64_in _ (by omega)

set_option maxRecDepth 100000 in
set_option maxHeartbeats 4000000 in
theorem inverse11_any (A : Array Value) (F : Nat → Int) (hF : Po F) (hA : A = ((gI F).map (Value.int .i64)).toArray) (w : World) :
  Calls Tryz.prog 61 #[.agg A] w fun e w' => e = .returned (poV (inw (rF F))) ∧ Below w.heap.size w w' := by
 have HF : Hid (Po F) := hF
 clear hF
 go_enter Tryz.func61, Tryz.ntmps61
 go_wp2_with (refine wpList_box_row (k := .i64) rfl 57 _ rfl (gI F) (by rw [← hA]; rfl) (gI_ne _) (poMax _) ?_)
 intro w1 ra bn sn
 rw [gI_length] at ra
 have hbw := bn
 have n1 : w.heap.size < w1.heap.size := by have := sn.out; omega
 clear bn sn hA
 go_wp2_with (refine wpList_alloc_row (k := .i64) rfl 57 rfl (gI fun _ => 0) (alloc_po _) (gI_ne _) (poMax _) ?_)
 intro w2 rz bn sn
 rw [gI_length] at rz
 replace ra := ra.kept bn
 replace hbw := stepB hbw bn
 have n2 : w1.heap.size < w2.heap.size := by have := sn.out; omega
 clear bn sn
 go_wp2_with (refine wpList_load_row rfl 57 _ rfl rfl ra _ Tryz.underlying57 rfl (poInfo _) ?_)
 refine (clean11_any _ F HF.out rfl _).mono ?_
 rintro e w4 ⟨rfl, bn⟩
 replace ra := ra.kept bn
 replace rz := rz.kept bn
 replace hbw := stepB hbw bn
 have n4 := bn.size
 clear bn
 go_wp2_with (refine wpList_store_row rfl 57 _ _ rfl (gI (fzF (rF F))) rfl rfl ra (by rw [gI_length, gI_length]) (poInfo _) ?_)
 intro w5 ra5 hw5
 replace rz := rz.wrote hw5 (by omega)
 replace hbw := hw5.below _ _ (Nat.le_refl _) hbw
 have n5 : w4.heap.size ≤ w5.heap.size := Nat.le_of_eq hw5.size.symm
 clear ra hw5
 obtain ⟨a, ha⟩ : ∃ a : Nat → FZ, a = rF F := ⟨_, rfl⟩
 rw [← ha] at ra5
 have HA : Hid _ := ha
 clear ha
 go_wp2_with (refine wpList_alloc_row (k := .i64) rfl 57 rfl (gI fun _ => 0) (alloc_po _) (gI_ne _) (poMax _) ?_)
 intro w6 ro bn sn
 rw [gI_length] at ro
 replace ra5 := ra5.kept bn
 replace rz := rz.kept bn
 replace hbw := stepB hbw bn
 have n6 : w5.heap.size < w6.heap.size := by have := sn.out; omega
 clear bn sn
 go_wp2
 go_loopw [4] (fun iv wx => ∃ (i : Nat) (H : Nat → Int), i ≤ 128 ∧ iv = .int .i64 (i : Int) ∧ Hid (∀ k, k < 256 → H k = fzF (inS a i) k) ∧ RowAt .i64 57 w.heap.size 256 (gI (fzF a)) wx ∧ RowAt .i64 57 w1.heap.size 256 (gI fun _ => 0) wx ∧ RowAt .i64 57 w5.heap.size 256 (gI H) wx ∧ Below w.heap.size w wx) (fun iv _ => 128 - (intOf iv).toNat)
 case atStart => exact ⟨0, fun _ => 0, by omega, rfl, (by show ∀ k, _; intro k _; rfl), ra5, rz, ro, hbw⟩
 case round =>
  obtain ⟨i, H, hi, rfl, HH, ra, rz', ro', hbx⟩ := hrel
  clear ra5 rz ro hbw
  by_cases hlt : i < 128
  ·have hd : decide ((i : Int) < 128) = true := decide_eq_true (by omega)
   have hiI : (i : Int) < 128 := by omega
   go_wp2_with fail
   refine (root11_any i hlt _ rfl _).mono ?_
   rintro e wq ⟨rfl, rfl⟩
   have HZr : Hid (((zr i).val : Nat) < 3329) := (zr i).isLt
   have HPw : Hid (pwZ (((zr i).val : Nat) : Int) 255 = (zi i).val) := pw_pz (zr i) 255
   generalize (zr i).val = zv at HZr HPw ⊢
   go_wp2_with fail
   refine (powerZ_any (zv : Int) 255 ⟨by omega, by have := HZr.out; omega⟩ (by decide) _).mono ?_
   rintro e wq ⟨rfl, rfl⟩
   rw [HPw.out]
   clear HZr HPw
   obtain ⟨z, hz⟩ : ∃ z : FZ, z = zi i := ⟨_, rfl⟩
   rw [← hz]
   have HZ : Hid _ := hz
   clear hz
   obtain ⟨ei, oi, hei, hoi, p1, p2, p3, p4, p5, p6⟩ := two_facts i hlt
   have HEi : Hid _ := hei
   have HOi : Hid _ := hoi
   have HS : Hid (∀ k, k < 256 → H k = fzF (fun p => inS a (if p / 2 < 0 then i + 1 else i) p) k) := by
    show ∀ k, _
    intro k hk
    rw [HH.out k hk]
    rfl
   clear hei hoi HH
   go_wp2
   go_loopw [6, 7] (fun kv jv wx => ∃ (j : Nat) (H : Nat → Int), j ≤ 128 ∧ jv = .int .i64 (j : Int) ∧ kv = .int .i64 (((3303 * pz z j).val : Nat) : Int) ∧ Hid (∀ k, k < 256 → H k = fzF (fun p => inS a (if p / 2 < j then i + 1 else i) p) k) ∧ RowAt .i64 57 w.heap.size 256 (gI (fzF a)) wx ∧ RowAt .i64 57 w1.heap.size 256 (gI fun _ => 0) wx ∧ RowAt .i64 57 w5.heap.size 256 (gI H) wx ∧ Below w.heap.size w wx) (fun _ jv _ => 128 - (intOf jv).toNat)
   case atStart => exact ⟨0, H, by omega, rfl, by rw [kz_first]; rfl, HS, ra, rz', ro', hbx⟩
   case round =>
    obtain ⟨j, H2, hj, rfl, rfl, HH, ra, rz, ro, hbx⟩ := hrel
    clear ro' rz'
    by_cases hltj : j < 128
    ·have hdj : decide ((j : Int) < 128) = true := decide_eq_true (by omega)
     have hjI : (j : Int) < 128 := by omega
     obtain ⟨ej, oj, hej, hoj, q1, q2, q3, q4, q5, q6⟩ := two_facts j hltj
     have ca := ra.cell (j := ei) (by rw [gI_length]; exact p3)
     rw [gI_get _ p3] at ca
     unfold fzF at ca
     have cb := ra.cell (j := oi) (by rw [gI_length]; exact p4)
     rw [gI_get _ p4] at cb
     unfold fzF at cb
     have co := ro.cell (j := ej) (by rw [gI_length]; exact q3)
     rw [gI_get _ q3, HH.out ej q3] at co
     simp only [fzF] at co
     have he2 : ej / 2 = j := by omega
     have ho2 : oj / 2 = j := by omega
     rw [he2, if_neg (by omega)] at co
     have n1 := inS_next a i ej
     have n2 := inS_next a i oj
     rw [he2, show ej % 2 = 0 by omega, ← HZ.out, show 2 * i + 0 = ei by have := HEi.out; omega] at n1
     rw [ho2, show oj % 2 = 1 by omega, ← HZ.out, show 2 * i + 1 = oi by have := HOi.out; omega] at n2
     obtain ⟨m0, t0, v0, hv0, y1, y2, y3, y4⟩ := muladd_facts (inS a i ej) (a ei) (3303 * pz z j)
     obtain ⟨m1, t1, v1, hv1, u1, u2, u3, u4⟩ := muladd_facts (inS a i oj) (a oi) (3303 * pz z j)
     obtain ⟨m2, v2, hv2, g1, g2, g3⟩ := mul_facts (3303 * pz z j) z
     rw [← n1] at hv0
     rw [← n2] at hv1
     rw [← kz_next] at hv2
     have HO1 : Hid (H2 oj = (((inS a i oj).val : Nat) : Int)) := by
      show _ = _
      rw [HH.out oj q4]
      simp only [fzF]
      rw [ho2, if_neg (by omega)]
     have HHn : Hid (∀ k, k < 256 → (if k = oj then ((v1 : Nat) : Int) else if k = ej then ((v0 : Nat) : Int) else H2 k) = fzF (fun p => inS a (if p / 2 < j + 1 then i + 1 else i) p) k) := by
      show ∀ k, _
      intro k hk
      by_cases h1 : k = oj
      ·rw [if_pos h1, h1, hv1]
       simp only [fzF]
       rw [ho2, if_pos (by omega)]
      ·rw [if_neg h1]
       by_cases h2 : k = ej
       ·rw [if_pos h2, h2, hv0]
        simp only [fzF]
        rw [he2, if_pos (by omega)]
       ·rw [if_neg h2, HH.out k hk]
        simp only [fzF]
        by_cases h3 : k / 2 < j
        ·rw [if_pos h3, if_pos (by omega)]
        ·rw [if_neg h3, if_neg (by omega)]
     have HV2 : Hid _ := hv2
     have HNe : Hid (oj ≠ ej) := by
      show _ ≠ _
      omega
     generalize (3303 * pz z j).val = K at y1 u1 g1 ⊢
     generalize (inS a i ej).val = O0 at y2 co
     generalize (inS a i oj).val = O1 at u2 HO1
     generalize (a ei).val = A0 at ca y1
     generalize (a oi).val = A1 at cb u1
     have Q3 : Hid (ej < 256) := q3
     have Q4 : Hid (oj < 256) := q4
     generalize hzv : z.val = zv at g1 ⊢
     have HZv : Hid _ := hzv
     clear hzv hv0 hv1 hv2 n1 n2 he2 ho2 hej hoj HH
     go_wp2_with fail
     have hB : Below wr.heap.size wr wr.drew := (Below.refl _ _).drew
     refine wpF_begin 15 (w0 := wr) (by kernel_rfl) ?_
     refine wpF_p (hb := .inr hB) (i := 0) (oi := ⟨some 21, .move (.tmp 7), 3, "ref.go:63", #[], none⟩) (v := ?_) ?_ ?_
     rotate_left
     ·intro W; go_simp <;> with_reducible rfl
     try simp only [Act.put, putA, putB, putC]
     refine wpF_p (hb := .inr hB) (i := 1) (oi := ⟨some 22, .binOp .mul 3 (.const (.int .i64 2)) (.tmp 21) 3, 3, "ref.go:63", #[⟨0, .data⟩], none⟩) (v := ?_) ?_ ?_
     rotate_left
     ·intro W; go_simp <;> with_reducible rfl
     try simp only [Act.put, putA, putB, putC]
     refine wpF_p (hb := .inr hB) (i := 2) (oi := ⟨some 23, .move (.tmp 7), 3, "ref.go:63", #[], none⟩) (v := ?_) ?_ ?_
     rotate_left
     ·intro W; go_simp <;> with_reducible rfl
     try simp only [Act.put, putA, putB, putC]
     refine wpF_p (hb := .inr hB) (i := 3) (oi := ⟨some 24, .binOp .mul 3 (.const (.int .i64 2)) (.tmp 23) 3, 3, "ref.go:63", #[⟨2, .data⟩], none⟩) (v := ?_) ?_ ?_
     rotate_left
     ·intro W; go_simp <;> with_reducible rfl
     try simp only [Act.put, putA, putB, putC]
     refine wpF_p (hb := .inr hB) (i := 4) (oi := ⟨some 25, .indexAddr 57 (.tmp 3) (.tmp 24), 0, "ref.go:63", #[⟨3, .data⟩], none⟩) (v := ?_) ?_ ?_
     rotate_left
     ·intro W; go_simp <;> with_reducible rfl
     try simp only [Act.put, putA, putB, putC]
     refine wpF_t (hb := hB) (i := 5) (oi := ⟨some 26, .load 3 (.tmp 25), 3, "ref.go:63", #[⟨4, .data⟩], none⟩) (v := ?_) ?_ ?_
     rotate_left
     ·intro W hW; have hcW := cellB11 co hW; go_simp <;> with_reducible rfl
     try simp only [Act.put, putA, putB, putC]
     refine wpF_p (hb := .inr hB) (i := 6) (oi := ⟨some 27, .move (.tmp 4), 3, "ref.go:63", #[], none⟩) (v := ?_) ?_ ?_
     rotate_left
     ·intro W; go_simp <;> with_reducible rfl
     try simp only [Act.put, putA, putB, putC]
     refine wpF_p (hb := .inr hB) (i := 7) (oi := ⟨some 28, .binOp .mul 3 (.const (.int .i64 2)) (.tmp 27) 3, 3, "ref.go:63", #[⟨6, .data⟩], none⟩) (v := ?_) ?_ ?_
     rotate_left
     ·intro W; go_simp <;> with_reducible rfl
     try simp only [Act.put, putA, putB, putC]
     refine wpF_p (hb := .inr hB) (i := 8) (oi := ⟨some 29, .indexAddr 57 (.tmp 1) (.tmp 28), 0, "ref.go:63", #[⟨7, .data⟩], none⟩) (v := ?_) ?_ ?_
     rotate_left
     ·intro W; go_simp <;> with_reducible rfl
     try simp only [Act.put, putA, putB, putC]
     refine wpF_t (hb := hB) (i := 9) (oi := ⟨some 30, .load 3 (.tmp 29), 3, "ref.go:63", #[⟨8, .data⟩], none⟩) (v := ?_) ?_ ?_
     rotate_left
     ·intro W hW; have hcW := cellB11 ca hW; go_simp <;> with_reducible rfl
     try simp only [Act.put, putA, putB, putC]
     refine wpF_p (hb := .inr hB) (i := 10) (oi := ⟨some 31, .move (.tmp 6), 3, "ref.go:63", #[], none⟩) (v := ?_) ?_ ?_
     rotate_left
     ·intro W; go_simp <;> with_reducible rfl
     try simp only [Act.put, putA, putB, putC]
     refine wpF_p (hb := .inr hB) (i := 11) (oi := ⟨some 32, .binOp .mul 3 (.tmp 30) (.tmp 31) 3, 3, "ref.go:63", #[⟨9, .data⟩, ⟨10, .data⟩], none⟩) (v := ?_) ?_ ?_
     rotate_left
     ·intro W; go_simp <;> with_reducible rfl
     try simp only [Act.put, putA, putB, putC]
     refine wpF_p (hb := .inr hB) (i := 12) (oi := ⟨some 33, .binOp .add 3 (.tmp 26) (.tmp 32) 3, 3, "ref.go:63", #[⟨5, .data⟩, ⟨11, .data⟩], none⟩) (v := ?_) ?_ ?_
     rotate_left
     ·intro W; go_simp <;> with_reducible rfl
     try simp only [Act.put, putA, putB, putC]
     refine wpF_p (hb := .inr hB) (i := 13) (oi := ⟨some 34, .binOp .rem 3 (.tmp 33) (.const (.int .i64 3329)) 3, 3, "ref.go:63", #[⟨12, .data⟩], none⟩) (v := ?_) ?_ ?_
     rotate_left
     ·intro W; go_simp <;> with_reducible rfl
     try simp only [Act.put, putA, putB, putC]
     refine wpF_p (hb := .inr hB) (i := 14) (oi := ⟨some 35, .indexAddr 57 (.tmp 3) (.tmp 22), 0, "ref.go:63", #[⟨1, .data⟩, ⟨0, .phase⟩, ⟨1, .phase⟩, ⟨2, .phase⟩, ⟨3, .phase⟩, ⟨4, .phase⟩, ⟨5, .phase⟩, ⟨6, .phase⟩, ⟨7, .phase⟩, ⟨8, .phase⟩, ⟨9, .phase⟩, ⟨10, .phase⟩, ⟨11, .phase⟩, ⟨12, .phase⟩, ⟨13, .phase⟩], none⟩) (v := ?_) ?_ ?_
     rotate_left
     ·intro W; go_simp <;> with_reducible rfl
     try simp only [Act.put, putA, putB, putC]
     refine wpF_do (i := 15) (o := ⟨none, .store 3 (.tmp 35) (.tmp 34), 0, "ref.go:63", #[⟨14, .data⟩, ⟨13, .data⟩, ⟨0, .phase⟩, ⟨1, .phase⟩, ⟨2, .phase⟩, ⟨3, .phase⟩, ⟨4, .phase⟩, ⟨5, .phase⟩, ⟨6, .phase⟩, ⟨7, .phase⟩, ⟨8, .phase⟩, ⟨9, .phase⟩, ⟨10, .phase⟩, ⟨11, .phase⟩, ⟨12, .phase⟩, ⟨13, .phase⟩], none⟩) (by kernel_rfl) rfl (by rfl) fun K hK => ?_
     refine wp_store_int _ _ (by rfl) (by rfl) (v0 : Int) (by rfl) ro.drew (by rw [gI_length]; exact Q3.out) ?_
     intro w8 r8 hw8
     rw [gI_set] at r8
     refine hK.out _ _ (.inl rfl) ?_
     clear hK K
     try simp only [Act.put, putA, putB, putC]
     refine wpF_done (by kernel_rfl) ?_
     have hw9 := hw8.ofdrew11
     have ra9 := ra.wrote hw9 (by omega)
     have rz9 := rz.wrote hw9 (by omega)
     have hb9 := hw9.below _ _ (by omega) hbx
     have cb9 := ra9.cell (j := oi) (by rw [gI_length]; exact p4)
     rw [gI_get _ p4] at cb9
     have cbv : fzF a oi = (A1 : Int) := by
      have h1 := ra.cell (j := oi) (by rw [gI_length]; exact p4)
      rw [gI_get _ p4, cb, Option.some.injEq, Value.int.injEq] at h1
      exact h1.2.symm
     rw [cbv] at cb9
     have co9 := r8.cell (j := oj) (by rw [gI_length]; exact Q4.out)
     rw [gI_get _ Q4.out, if_neg HNe.out, HO1.out] at co9
     clear ra rz ro hbx ca cb co hw8 hw9 cbv hB
     rename World => wx
     go_wp2_with fail
     have hB : Below wx.heap.size wx wx.drew := (Below.refl _ _).drew
     refine wpF_begin 18 (w0 := wx) (by kernel_rfl) ?_
     refine wpF_p (hb := .inr hB) (i := 0) (oi := ⟨some 36, .move (.tmp 7), 3, "ref.go:64", #[], none⟩) (v := ?_) ?_ ?_
     rotate_left
     ·intro W; go_simp <;> with_reducible rfl
     try simp only [Act.put, putA, putB, putC]
     refine wpF_p (hb := .inr hB) (i := 1) (oi := ⟨some 37, .binOp .mul 3 (.const (.int .i64 2)) (.tmp 36) 3, 3, "ref.go:64", #[⟨0, .data⟩], none⟩) (v := ?_) ?_ ?_
     rotate_left
     ·intro W; go_simp <;> with_reducible rfl
     try simp only [Act.put, putA, putB, putC]
     refine wpF_p (hb := .inr hB) (i := 2) (oi := ⟨some 38, .binOp .add 3 (.tmp 37) (.const (.int .i64 1)) 3, 3, "ref.go:64", #[⟨1, .data⟩], none⟩) (v := ?_) ?_ ?_
     rotate_left
     ·intro W; go_simp <;> with_reducible rfl
     try simp only [Act.put, putA, putB, putC]
     refine wpF_p (hb := .inr hB) (i := 3) (oi := ⟨some 39, .move (.tmp 7), 3, "ref.go:64", #[], none⟩) (v := ?_) ?_ ?_
     rotate_left
     ·intro W; go_simp <;> with_reducible rfl
     try simp only [Act.put, putA, putB, putC]
     refine wpF_p (hb := .inr hB) (i := 4) (oi := ⟨some 40, .binOp .mul 3 (.const (.int .i64 2)) (.tmp 39) 3, 3, "ref.go:64", #[⟨3, .data⟩], none⟩) (v := ?_) ?_ ?_
     rotate_left
     ·intro W; go_simp <;> with_reducible rfl
     try simp only [Act.put, putA, putB, putC]
     refine wpF_p (hb := .inr hB) (i := 5) (oi := ⟨some 41, .binOp .add 3 (.tmp 40) (.const (.int .i64 1)) 3, 3, "ref.go:64", #[⟨4, .data⟩], none⟩) (v := ?_) ?_ ?_
     rotate_left
     ·intro W; go_simp <;> with_reducible rfl
     try simp only [Act.put, putA, putB, putC]
     refine wpF_p (hb := .inr hB) (i := 6) (oi := ⟨some 42, .indexAddr 57 (.tmp 3) (.tmp 41), 0, "ref.go:64", #[⟨5, .data⟩], none⟩) (v := ?_) ?_ ?_
     rotate_left
     ·intro W; go_simp <;> with_reducible rfl
     try simp only [Act.put, putA, putB, putC]
     refine wpF_t (hb := hB) (i := 7) (oi := ⟨some 43, .load 3 (.tmp 42), 3, "ref.go:64", #[⟨6, .data⟩], none⟩) (v := ?_) ?_ ?_
     rotate_left
     ·intro W hW; have hcW := cellB11 co9 hW; go_simp <;> with_reducible rfl
     try simp only [Act.put, putA, putB, putC]
     refine wpF_p (hb := .inr hB) (i := 8) (oi := ⟨some 44, .move (.tmp 4), 3, "ref.go:64", #[], none⟩) (v := ?_) ?_ ?_
     rotate_left
     ·intro W; go_simp <;> with_reducible rfl
     try simp only [Act.put, putA, putB, putC]
     refine wpF_p (hb := .inr hB) (i := 9) (oi := ⟨some 45, .binOp .mul 3 (.const (.int .i64 2)) (.tmp 44) 3, 3, "ref.go:64", #[⟨8, .data⟩], none⟩) (v := ?_) ?_ ?_
     rotate_left
     ·intro W; go_simp <;> with_reducible rfl
     try simp only [Act.put, putA, putB, putC]
     refine wpF_p (hb := .inr hB) (i := 10) (oi := ⟨some 46, .binOp .add 3 (.tmp 45) (.const (.int .i64 1)) 3, 3, "ref.go:64", #[⟨9, .data⟩], none⟩) (v := ?_) ?_ ?_
     rotate_left
     ·intro W; go_simp <;> with_reducible rfl
     try simp only [Act.put, putA, putB, putC]
     refine wpF_p (hb := .inr hB) (i := 11) (oi := ⟨some 47, .indexAddr 57 (.tmp 1) (.tmp 46), 0, "ref.go:64", #[⟨10, .data⟩], none⟩) (v := ?_) ?_ ?_
     rotate_left
     ·intro W; go_simp <;> with_reducible rfl
     try simp only [Act.put, putA, putB, putC]
     refine wpF_t (hb := hB) (i := 12) (oi := ⟨some 48, .load 3 (.tmp 47), 3, "ref.go:64", #[⟨11, .data⟩], none⟩) (v := ?_) ?_ ?_
     rotate_left
     ·intro W hW; have hcW := cellB11 cb9 hW; go_simp <;> with_reducible rfl
     try simp only [Act.put, putA, putB, putC]
     refine wpF_p (hb := .inr hB) (i := 13) (oi := ⟨some 49, .move (.tmp 6), 3, "ref.go:64", #[], none⟩) (v := ?_) ?_ ?_
     rotate_left
     ·intro W; go_simp <;> with_reducible rfl
     try simp only [Act.put, putA, putB, putC]
     refine wpF_p (hb := .inr hB) (i := 14) (oi := ⟨some 50, .binOp .mul 3 (.tmp 48) (.tmp 49) 3, 3, "ref.go:64", #[⟨12, .data⟩, ⟨13, .data⟩], none⟩) (v := ?_) ?_ ?_
     rotate_left
     ·intro W; go_simp <;> with_reducible rfl
     try simp only [Act.put, putA, putB, putC]
     refine wpF_p (hb := .inr hB) (i := 15) (oi := ⟨some 51, .binOp .add 3 (.tmp 43) (.tmp 50) 3, 3, "ref.go:64", #[⟨7, .data⟩, ⟨14, .data⟩], none⟩) (v := ?_) ?_ ?_
     rotate_left
     ·intro W; go_simp <;> with_reducible rfl
     try simp only [Act.put, putA, putB, putC]
     refine wpF_p (hb := .inr hB) (i := 16) (oi := ⟨some 52, .binOp .rem 3 (.tmp 51) (.const (.int .i64 3329)) 3, 3, "ref.go:64", #[⟨15, .data⟩], none⟩) (v := ?_) ?_ ?_
     rotate_left
     ·intro W; go_simp <;> with_reducible rfl
     try simp only [Act.put, putA, putB, putC]
     refine wpF_p (hb := .inr hB) (i := 17) (oi := ⟨some 53, .indexAddr 57 (.tmp 3) (.tmp 38), 0, "ref.go:64", #[⟨2, .data⟩, ⟨0, .phase⟩, ⟨1, .phase⟩, ⟨2, .phase⟩, ⟨3, .phase⟩, ⟨4, .phase⟩, ⟨5, .phase⟩, ⟨6, .phase⟩, ⟨7, .phase⟩, ⟨8, .phase⟩, ⟨9, .phase⟩, ⟨10, .phase⟩, ⟨11, .phase⟩, ⟨12, .phase⟩, ⟨13, .phase⟩, ⟨14, .phase⟩, ⟨15, .phase⟩, ⟨16, .phase⟩], none⟩) (v := ?_) ?_ ?_
     rotate_left
     ·intro W; go_simp <;> with_reducible rfl
     try simp only [Act.put, putA, putB, putC]
     refine wpF_do (i := 18) (o := ⟨none, .store 3 (.tmp 53) (.tmp 52), 0, "ref.go:64", #[⟨17, .data⟩, ⟨16, .data⟩, ⟨0, .phase⟩, ⟨1, .phase⟩, ⟨2, .phase⟩, ⟨3, .phase⟩, ⟨4, .phase⟩, ⟨5, .phase⟩, ⟨6, .phase⟩, ⟨7, .phase⟩, ⟨8, .phase⟩, ⟨9, .phase⟩, ⟨10, .phase⟩, ⟨11, .phase⟩, ⟨12, .phase⟩, ⟨13, .phase⟩, ⟨14, .phase⟩, ⟨15, .phase⟩, ⟨16, .phase⟩], none⟩) (by kernel_rfl) rfl (by rfl) fun K hK => ?_
     refine wp_store_int _ _ (by rfl) (by rfl) (v1 : Int) (by rfl) r8.drew (by rw [gI_length]; exact Q4.out) ?_
     intro w10 r10 hw10
     rw [gI_set] at r10
     refine hK.out _ _ (.inl rfl) ?_
     clear hK K
     try simp only [Act.put, putA, putB, putC]
     refine wpF_done (by kernel_rfl) ?_
     have hw11 := hw10.ofdrew11
     have ra11 := ra9.wrote hw11 (by omega)
     have rz11 := rz9.wrote hw11 (by omega)
     have hb11 := hw11.below _ _ (by omega) hb9
     clear ra9 rz9 r8 hb9 co9 cb9 hw10 hw11
     go_wp2
     go_roundw
     case rel => exact ⟨j + 1, _, by omega, by go_num, by rw [← HV2.out], HHn, ra11, rz11, r10, hb11⟩
     case measure => simp [intOf] <;> omega
    ·have hje : j = 128 := by omega
     have hdj : decide ((j : Int) < 128) = false := decide_eq_false (by omega)
     have hjI : (128 : Int) ≤ (j : Int) := by omega
     have HHn : Hid (∀ k, k < 256 → H2 k = fzF (inS a (i + 1)) k) := by
      show ∀ k, _
      intro k hk
      rw [HH.out k hk]
      simp only [fzF]
      rw [if_pos (by omega)]
     generalize (3303 * pz z j).val = K
     clear hje
     go_wp2
     go_roundw
     case rel => exact ⟨i + 1, H2, by omega, by go_num, HHn, ra, rz, ro, hbx⟩
     case measure => simp [intOf] <;> omega
  ·have hie : i = 128 := by omega
   have hd : decide ((i : Int) < 128) = false := decide_eq_false (by omega)
   have hiI : (128 : Int) ≤ (i : Int) := by omega
   have HE : Hid (gI H = gI (fzF (inw a))) := by
    show _ = _
    exact gI_congr fun k hk => by rw [HH.out k hk, hie]; rfl
   clear hie
   rw [HE.out] at ro'
   go_wp2_with (first | refine wpList_load_row rfl 57 _ rfl rfl ro' _ Tryz.underlying57 rfl (poInfo _) ?_ | (refine wpList_store_row rfl 57 _ _ rfl (gI (fzF (inw a))) rfl rfl rz' (by rw [gI_length, gI_length]) (poInfo _) ?_; intro w9 r9 hw9))
   refine bodyPost_row (k := .i64) rfl rfl rfl r9 Tryz.underlying57 rfl (poInfo _) ?_
   exact ⟨by rw [HA.out], hw9.below _ _ (by omega) hbx⟩
theorem fz_even (x y u v z : FZ) : (x * y + u * v * z).val = (x.val * y.val + u.val * v.val % 3329 * z.val) % 3329 := by
 rw [fz_val_add, fz_val_mul, fz_val_mul (u * v) z, fz_val_mul u v]
 omega
theorem fz_odd (x y u v : FZ) : (x * y + u * v).val = (x.val * y.val + u.val * v.val) % 3329 := by
 rw [fz_val_add, fz_val_mul, fz_val_mul u v]
 omega
theorem even_facts (x y u v z : FZ) : ∃ m1 m2 r2 m3 s t : Nat, t = (x * y + u * v * z).val ∧ IntKind.i64.wrap (((x.val : Nat) : Int) * ((y.val : Nat) : Int)) = (m1 : Int) ∧ IntKind.i64.wrap (((u.val : Nat) : Int) * ((v.val : Nat) : Int)) = (m2 : Int) ∧ ((m2 : Nat) : Int).tmod 3329 = (r2 : Int) ∧ IntKind.i64.wrap (r2 : Int) = (r2 : Int) ∧
  IntKind.i64.wrap ((r2 : Int) * ((z.val : Nat) : Int)) = (m3 : Int) ∧ IntKind.i64.wrap ((m1 : Int) + (m3 : Int)) = (s : Int) ∧ ((s : Nat) : Int).tmod 3329 = (t : Int) ∧ IntKind.i64.wrap (t : Int) = (t : Int) := by
 have h1 := mul_lt_fz x y
 have h2 := mul_lt_fz u v
 have h3 : u.val * v.val % 3329 * z.val < 11082241 := by
  have a1 : u.val * v.val % 3329 < 3329 := Nat.mod_lt _ (by decide)
  have a2 := z.isLt
  have : u.val * v.val % 3329 * z.val ≤ 3328 * 3328 := Nat.mul_le_mul (by omega) (by omega)
  omega
 have h4 := fz_even x y u v z
 refine ⟨x.val * y.val, u.val * v.val, u.val * v.val % 3329, u.val * v.val % 3329 * z.val, x.val * y.val + u.val * v.val % 3329 * z.val, _, rfl, ?_, ?_, ?_, ?_, ?_, ?_, ?_, ?_⟩
 ·rw [← Int.natCast_mul]
  exact IntWalk.i64_in _ (by omega)
 ·rw [← Int.natCast_mul]
  exact IntWalk.i64_in _ (by omega)
 ·rw [Int.tmod_eq_emod_of_nonneg (by omega)]
  omega
 ·exact IntWalk.i64_in _ (by omega)
 ·rw [← Int.natCast_mul]
  exact IntWalk.i64_in _ (by omega)
 ·exact IntWalk.i64_in _ (by omega)
 ·rw [Int.tmod_eq_emod_of_nonneg (by omega), h4]
  omega
 ·exact IntWalk.i64_in _ (by omega)
theorem odd_facts (x y u v : FZ) : ∃ m1 m2 s t : Nat, t = (x * y + u * v).val ∧ IntKind.i64.wrap (((x.val : Nat) : Int) * ((y.val : Nat) : Int)) = (m1 : Int) ∧ IntKind.i64.wrap (((u.val : Nat) : Int) * ((v.val : Nat) : Int)) = (m2 : Int) ∧
  IntKind.i64.wrap ((m1 : Int) + (m2 : Int)) = (s : Int) ∧ ((s : Nat) : Int).tmod 3329 = (t : Int) ∧ IntKind.i64.wrap (t : Int) = (t : Int) := by
 have h1 := mul_lt_fz x y
 have h2 := mul_lt_fz u v
 have h4 := fz_odd x y u v
 refine ⟨x.val * y.val, u.val * v.val, x.val * y.val + u.val * v.val, _, rfl, ?_, ?_, ?_, ?_, ?_⟩
 ·rw [← Int.natCast_mul]
  exact IntWalk.i64_in _ (by omega)
 ·rw [← Int.natCast_mul]
  exact IntWalk.i64_in _ (by omega)
 ·exact IntWalk.i64_in _ (by omega)
 ·rw [Int.tmod_eq_emod_of_nonneg (by omega), h4]
  omega
 ·exact IntWalk.i64_in _ (by omega)

set_option maxRecDepth 100000 in
set_option maxHeartbeats 4000000 in
theorem times11_any (A B : Array Value) (F G : Nat → Int) (hF : Po F) (hG : Po G) (hA : A = ((gI F).map (Value.int .i64)).toArray) (hB : B = ((gI G).map (Value.int .i64)).toArray) (w : World) :
  Calls Tryz.prog 54 #[.agg A, .agg B] w fun e w' => e = .returned (poV (tm (rF F) (rF G))) ∧ Below w.heap.size w w' := by
 have HF : Hid (Po F) := hF
 have HG : Hid (Po G) := hG
 clear hF hG
 go_enter Tryz.func54, Tryz.ntmps54
 go_wp2_with (refine wpList_box_row (k := .i64) rfl 57 _ rfl (gI F) (by rw [← hA]; rfl) (gI_ne _) (poMax _) ?_)
 intro w1 ra bn sn
 rw [gI_length] at ra
 have hbw := bn
 have n1 : w.heap.size < w1.heap.size := by have := sn.out; omega
 clear bn sn hA
 go_wp2_with (refine wpList_box_row (k := .i64) rfl 57 _ rfl (gI G) (by rw [← hB]; rfl) (gI_ne _) (poMax _) ?_)
 intro w2 rb bn sn
 rw [gI_length] at rb
 replace ra := ra.kept bn
 replace hbw := stepB hbw bn
 have n2 : w1.heap.size < w2.heap.size := by have := sn.out; omega
 clear bn sn hB
 go_wp2_with (refine wpList_alloc_row (k := .i64) rfl 57 rfl (gI fun _ => 0) (alloc_po _) (gI_ne _) (poMax _) ?_)
 intro w3 rz bn sn
 rw [gI_length] at rz
 replace ra := ra.kept bn
 replace rb := rb.kept bn
 replace hbw := stepB hbw bn
 have n3 : w2.heap.size < w3.heap.size := by have := sn.out; omega
 clear bn sn
 go_wp2_with (refine wpList_load_row rfl 57 _ rfl rfl ra _ Tryz.underlying57 rfl (poInfo _) ?_)
 refine (clean11_any _ F HF.out rfl _).mono ?_
 rintro e w4 ⟨rfl, bn⟩
 replace ra := ra.kept bn
 replace rb := rb.kept bn
 replace rz := rz.kept bn
 replace hbw := stepB hbw bn
 have n4 := bn.size
 clear bn
 go_wp2_with (refine wpList_store_row rfl 57 _ _ rfl (gI (fzF (rF F))) rfl rfl ra (by rw [gI_length, gI_length]) (poInfo _) ?_)
 intro w5 ra5 hw5
 replace rb := rb.wrote hw5 (by omega)
 replace rz := rz.wrote hw5 (by omega)
 replace hbw := hw5.below _ _ (Nat.le_refl _) hbw
 have n5 : w4.heap.size ≤ w5.heap.size := Nat.le_of_eq hw5.size.symm
 clear ra hw5
 go_wp2_with (refine wpList_load_row rfl 57 _ rfl rfl rb _ Tryz.underlying57 rfl (poInfo _) ?_)
 refine (clean11_any _ G HG.out rfl _).mono ?_
 rintro e w6 ⟨rfl, bn⟩
 replace ra5 := ra5.kept bn
 replace rb := rb.kept bn
 replace rz := rz.kept bn
 replace hbw := stepB hbw bn
 have n6 := bn.size
 clear bn
 go_wp2_with (refine wpList_store_row rfl 57 _ _ rfl (gI (fzF (rF G))) rfl rfl rb (by rw [gI_length, gI_length]) (poInfo _) ?_)
 intro w7 rb7 hw7
 replace ra5 := ra5.wrote hw7 (by omega)
 replace rz := rz.wrote hw7 (by omega)
 replace hbw := hw7.below _ _ (by omega) hbw
 have n7 : w6.heap.size ≤ w7.heap.size := Nat.le_of_eq hw7.size.symm
 clear rb hw7
 obtain ⟨a, ha⟩ : ∃ a : Nat → FZ, a = rF F := ⟨_, rfl⟩
 obtain ⟨b, hb⟩ : ∃ b : Nat → FZ, b = rF G := ⟨_, rfl⟩
 rw [← ha] at ra5
 rw [← hb] at rb7
 have HA : Hid _ := ha
 have HB : Hid _ := hb
 clear ha hb
 go_wp2_with (refine wpList_alloc_row (k := .i64) rfl 57 rfl (gI fun _ => 0) (alloc_po _) (gI_ne _) (poMax _) ?_)
 intro w8 ro bn sn
 rw [gI_length] at ro
 replace ra5 := ra5.kept bn
 replace rb7 := rb7.kept bn
 replace rz := rz.kept bn
 replace hbw := stepB hbw bn
 have n8 : w7.heap.size < w8.heap.size := by have := sn.out; omega
 clear bn sn
 go_wp2
 go_loopw [6] (fun iv wx => ∃ (i : Nat) (H : Nat → Int), i ≤ 128 ∧ iv = .int .i64 (i : Int) ∧ Hid (∀ k, k < 256 → H k = if k < 2 * i then fzF (tm a b) k else 0) ∧ RowAt .i64 57 w.heap.size 256 (gI (fzF a)) wx ∧ RowAt .i64 57 w1.heap.size 256 (gI (fzF b)) wx ∧ RowAt .i64 57 w2.heap.size 256 (gI fun _ => 0) wx ∧ RowAt .i64 57 w7.heap.size 256 (gI H) wx ∧ Below w.heap.size w wx) (fun iv _ => 128 - (intOf iv).toNat)
 case atStart => exact ⟨0, fun _ => 0, by omega, rfl, (by show ∀ k, _; intro k _; rw [if_neg (by omega)]), ra5, rb7, rz, ro, hbw⟩
 case round =>
  obtain ⟨i, H, hi, rfl, HH, ra, rb, rz', ro', hbx⟩ := hrel
  clear ra5 rb7 rz ro hbw
  by_cases hlt : i < 128
  ·have hd : decide ((i : Int) < 128) = true := decide_eq_true (by omega)
   have hiI : (i : Int) < 128 := by omega
   obtain ⟨e, o, he, ho, x1, x2, l1, l2, l3, l4⟩ := two_facts i hlt
   have ae := ra.cell (j := e) (by rw [gI_length]; exact l1)
   have ao := ra.cell (j := o) (by rw [gI_length]; exact l2)
   have be := rb.cell (j := e) (by rw [gI_length]; exact l1)
   have bo := rb.cell (j := o) (by rw [gI_length]; exact l2)
   rw [gI_get _ l1] at ae be
   rw [gI_get _ l2] at ao bo
   simp only [fzF] at ae ao be bo
   obtain ⟨m1, m2, r2, m3, s, t, ht, y1, y2, y3, y4, y5, y6, y7, y8⟩ := even_facts (a e) (b e) (a o) (b o) (zr i)
   obtain ⟨k1, k2, s', t', ht', u1, u2, u3, u4, u5⟩ := odd_facts (a e) (b o) (a o) (b e)
   have HHn : Hid (∀ k, k < 256 → (if k = o then ((t' : Nat) : Int) else if k = e then ((t : Nat) : Int) else H k) = if k < 2 * (i + 1) then fzF (tm a b) k else 0) := by
    show ∀ k, _
    intro k hk
    by_cases h1 : k = o
    ·rw [if_pos h1, if_pos (by omega), ht', h1]
     simp only [fzF]
     unfold tm
     rw [if_neg (by omega), show o - 1 = e by omega]
    ·rw [if_neg h1]
     by_cases h2 : k = e
     ·rw [if_pos h2, if_pos (by omega), ht, h2]
      simp only [fzF]
      unfold tm
      rw [if_pos (by omega), show e + 1 = o by omega, show e / 2 = i by omega]
     ·rw [if_neg h2, HH.out k hk]
      by_cases h3 : k < 2 * i
      ·rw [if_pos h3, if_pos (by omega)]
      ·rw [if_neg h3, if_neg (by omega)]
   have L1 : Hid (e < 256) := l1
   have L2 : Hid (o < 256) := l2
   have HAe : Hid (wr.cell? ⟨w.heap.size, e, none⟩ = some (.int .i64 (((a e).val : Nat) : Int))) := ae
   have HAo : Hid (wr.cell? ⟨w.heap.size, o, none⟩ = some (.int .i64 (((a o).val : Nat) : Int))) := ao
   have HBe : Hid (wr.cell? ⟨w1.heap.size, e, none⟩ = some (.int .i64 (((b e).val : Nat) : Int))) := be
   have HBo : Hid (wr.cell? ⟨w1.heap.size, o, none⟩ = some (.int .i64 (((b o).val : Nat) : Int))) := bo
   obtain ⟨zv, hzv⟩ : ∃ zv : Nat, zv = (zr i).val := ⟨_, rfl⟩
   rw [← hzv] at y5
   have HZv : Hid _ := hzv
   generalize (a e).val = A0 at ae y1 u1 HAe
   generalize (a o).val = A1 at ao y2 u2 HAo
   generalize (b e).val = B0 at be y1 u2 HBe
   generalize (b o).val = B1 at bo y2 u1 HBo
   clear ht ht' hzv he ho
   go_wp2_with fail
   have hB : Below wr.heap.size wr wr.drew := (Below.refl _ _).drew
   refine wpF_begin 29 (w0 := wr) (by kernel_rfl) ?_
   refine wpF_p (hb := .inr hB) (i := 0) (oi := ⟨some 15, .move (.tmp 6), 3, "ref.go:77", #[], none⟩) (v := ?_) ?_ ?_
   rotate_left
   ·intro W; go_simp <;> with_reducible rfl
   try simp only [Act.put, putA, putB, putC]
   refine wpF_p (hb := .inr hB) (i := 1) (oi := ⟨some 16, .binOp .mul 3 (.const (.int .i64 2)) (.tmp 15) 3, 3, "ref.go:77", #[⟨0, .data⟩], none⟩) (v := ?_) ?_ ?_
   rotate_left
   ·intro W; go_simp <;> with_reducible rfl
   try simp only [Act.put, putA, putB, putC]
   refine wpF_p (hb := .inr hB) (i := 2) (oi := ⟨some 17, .move (.tmp 6), 3, "ref.go:77", #[], none⟩) (v := ?_) ?_ ?_
   rotate_left
   ·intro W; go_simp <;> with_reducible rfl
   try simp only [Act.put, putA, putB, putC]
   refine wpF_p (hb := .inr hB) (i := 3) (oi := ⟨some 18, .binOp .mul 3 (.const (.int .i64 2)) (.tmp 17) 3, 3, "ref.go:77", #[⟨2, .data⟩], none⟩) (v := ?_) ?_ ?_
   rotate_left
   ·intro W; go_simp <;> with_reducible rfl
   try simp only [Act.put, putA, putB, putC]
   refine wpF_p (hb := .inr hB) (i := 4) (oi := ⟨some 19, .indexAddr 57 (.tmp 2) (.tmp 18), 0, "ref.go:77", #[⟨3, .data⟩], none⟩) (v := ?_) ?_ ?_
   rotate_left
   ·intro W; go_simp <;> with_reducible rfl
   try simp only [Act.put, putA, putB, putC]
   refine wpF_t (hb := hB) (i := 5) (oi := ⟨some 20, .load 3 (.tmp 19), 3, "ref.go:77", #[⟨4, .data⟩], none⟩) (v := ?_) ?_ ?_
   rotate_left
   ·intro W hW; have hcW := cellB11 ae hW; go_simp <;> with_reducible rfl
   try simp only [Act.put, putA, putB, putC]
   refine wpF_p (hb := .inr hB) (i := 6) (oi := ⟨some 21, .move (.tmp 6), 3, "ref.go:77", #[], none⟩) (v := ?_) ?_ ?_
   rotate_left
   ·intro W; go_simp <;> with_reducible rfl
   try simp only [Act.put, putA, putB, putC]
   refine wpF_p (hb := .inr hB) (i := 7) (oi := ⟨some 22, .binOp .mul 3 (.const (.int .i64 2)) (.tmp 21) 3, 3, "ref.go:77", #[⟨6, .data⟩], none⟩) (v := ?_) ?_ ?_
   rotate_left
   ·intro W; go_simp <;> with_reducible rfl
   try simp only [Act.put, putA, putB, putC]
   refine wpF_p (hb := .inr hB) (i := 8) (oi := ⟨some 23, .indexAddr 57 (.tmp 3) (.tmp 22), 0, "ref.go:77", #[⟨7, .data⟩], none⟩) (v := ?_) ?_ ?_
   rotate_left
   ·intro W; go_simp <;> with_reducible rfl
   try simp only [Act.put, putA, putB, putC]
   refine wpF_t (hb := hB) (i := 9) (oi := ⟨some 24, .load 3 (.tmp 23), 3, "ref.go:77", #[⟨8, .data⟩], none⟩) (v := ?_) ?_ ?_
   rotate_left
   ·intro W hW; have hcW := cellB11 be hW; go_simp <;> with_reducible rfl
   try simp only [Act.put, putA, putB, putC]
   refine wpF_p (hb := .inr hB) (i := 10) (oi := ⟨some 25, .binOp .mul 3 (.tmp 20) (.tmp 24) 3, 3, "ref.go:77", #[⟨5, .data⟩, ⟨9, .data⟩], none⟩) (v := ?_) ?_ ?_
   rotate_left
   ·intro W; go_simp <;> with_reducible rfl
   try simp only [Act.put, putA, putB, putC]
   refine wpF_p (hb := .inr hB) (i := 11) (oi := ⟨some 26, .move (.tmp 6), 3, "ref.go:77", #[], none⟩) (v := ?_) ?_ ?_
   rotate_left
   ·intro W; go_simp <;> with_reducible rfl
   try simp only [Act.put, putA, putB, putC]
   refine wpF_p (hb := .inr hB) (i := 12) (oi := ⟨some 27, .binOp .mul 3 (.const (.int .i64 2)) (.tmp 26) 3, 3, "ref.go:77", #[⟨11, .data⟩], none⟩) (v := ?_) ?_ ?_
   rotate_left
   ·intro W; go_simp <;> with_reducible rfl
   try simp only [Act.put, putA, putB, putC]
   refine wpF_p (hb := .inr hB) (i := 13) (oi := ⟨some 28, .binOp .add 3 (.tmp 27) (.const (.int .i64 1)) 3, 3, "ref.go:77", #[⟨12, .data⟩], none⟩) (v := ?_) ?_ ?_
   rotate_left
   ·intro W; go_simp <;> with_reducible rfl
   try simp only [Act.put, putA, putB, putC]
   refine wpF_p (hb := .inr hB) (i := 14) (oi := ⟨some 29, .indexAddr 57 (.tmp 2) (.tmp 28), 0, "ref.go:77", #[⟨13, .data⟩], none⟩) (v := ?_) ?_ ?_
   rotate_left
   ·intro W; go_simp <;> with_reducible rfl
   try simp only [Act.put, putA, putB, putC]
   refine wpF_t (hb := hB) (i := 15) (oi := ⟨some 30, .load 3 (.tmp 29), 3, "ref.go:77", #[⟨14, .data⟩], none⟩) (v := ?_) ?_ ?_
   rotate_left
   ·intro W hW; have hcW := cellB11 ao hW; go_simp <;> with_reducible rfl
   try simp only [Act.put, putA, putB, putC]
   refine wpF_p (hb := .inr hB) (i := 16) (oi := ⟨some 31, .move (.tmp 6), 3, "ref.go:77", #[], none⟩) (v := ?_) ?_ ?_
   rotate_left
   ·intro W; go_simp <;> with_reducible rfl
   try simp only [Act.put, putA, putB, putC]
   refine wpF_p (hb := .inr hB) (i := 17) (oi := ⟨some 32, .binOp .mul 3 (.const (.int .i64 2)) (.tmp 31) 3, 3, "ref.go:77", #[⟨16, .data⟩], none⟩) (v := ?_) ?_ ?_
   rotate_left
   ·intro W; go_simp <;> with_reducible rfl
   try simp only [Act.put, putA, putB, putC]
   refine wpF_p (hb := .inr hB) (i := 18) (oi := ⟨some 33, .binOp .add 3 (.tmp 32) (.const (.int .i64 1)) 3, 3, "ref.go:77", #[⟨17, .data⟩], none⟩) (v := ?_) ?_ ?_
   rotate_left
   ·intro W; go_simp <;> with_reducible rfl
   try simp only [Act.put, putA, putB, putC]
   refine wpF_p (hb := .inr hB) (i := 19) (oi := ⟨some 34, .indexAddr 57 (.tmp 3) (.tmp 33), 0, "ref.go:77", #[⟨18, .data⟩], none⟩) (v := ?_) ?_ ?_
   rotate_left
   ·intro W; go_simp <;> with_reducible rfl
   try simp only [Act.put, putA, putB, putC]
   refine wpF_t (hb := hB) (i := 20) (oi := ⟨some 35, .load 3 (.tmp 34), 3, "ref.go:77", #[⟨19, .data⟩], none⟩) (v := ?_) ?_ ?_
   rotate_left
   ·intro W hW; have hcW := cellB11 bo hW; go_simp <;> with_reducible rfl
   try simp only [Act.put, putA, putB, putC]
   refine wpF_p (hb := .inr hB) (i := 21) (oi := ⟨some 36, .binOp .mul 3 (.tmp 30) (.tmp 35) 3, 3, "ref.go:77", #[⟨15, .data⟩, ⟨20, .data⟩], none⟩) (v := ?_) ?_ ?_
   rotate_left
   ·intro W; go_simp <;> with_reducible rfl
   try simp only [Act.put, putA, putB, putC]
   refine wpF_p (hb := .inr hB) (i := 22) (oi := ⟨some 37, .binOp .rem 3 (.tmp 36) (.const (.int .i64 3329)) 3, 3, "ref.go:77", #[⟨21, .data⟩], none⟩) (v := ?_) ?_ ?_
   rotate_left
   ·intro W; go_simp <;> with_reducible rfl
   try simp only [Act.put, putA, putB, putC]
   refine wpF_p (hb := .inr hB) (i := 23) (oi := ⟨some 38, .move (.tmp 6), 3, "ref.go:77", #[], none⟩) (v := ?_) ?_ ?_
   rotate_left
   ·intro W; go_simp <;> with_reducible rfl
   try simp only [Act.put, putA, putB, putC]
   refine wpF_do (i := 24) (o := ⟨some 39, .call { callee := .value (.func 97), args := #[.tmp 38], argTypes := #[3] }, 3, "ref.go:77", #[⟨23, .data⟩], none⟩) (by kernel_rfl) rfl (by rfl) fun K hK => ?_
   go_simp
   refine (root11_any i hlt _ rfl _).mono ?_
   rintro e1 wq ⟨rfl, rfl⟩
   rw [← HZv.out]
   refine hK.out _ _ (.inr hB) ?_
   clear hK K
   try simp only [Act.put, putA, putB, putC]
   refine wpF_p (hb := .inr hB) (i := 25) (oi := ⟨some 40, .binOp .mul 3 (.tmp 37) (.tmp 39) 3, 3, "ref.go:77", #[⟨22, .data⟩, ⟨24, .data⟩], none⟩) (v := ?_) ?_ ?_
   rotate_left
   ·intro W; go_simp <;> with_reducible rfl
   try simp only [Act.put, putA, putB, putC]
   refine wpF_p (hb := .inr hB) (i := 26) (oi := ⟨some 41, .binOp .add 3 (.tmp 25) (.tmp 40) 3, 3, "ref.go:77", #[⟨10, .data⟩, ⟨25, .data⟩], none⟩) (v := ?_) ?_ ?_
   rotate_left
   ·intro W; go_simp <;> with_reducible rfl
   try simp only [Act.put, putA, putB, putC]
   refine wpF_p (hb := .inr hB) (i := 27) (oi := ⟨some 42, .binOp .rem 3 (.tmp 41) (.const (.int .i64 3329)) 3, 3, "ref.go:77", #[⟨26, .data⟩], none⟩) (v := ?_) ?_ ?_
   rotate_left
   ·intro W; go_simp <;> with_reducible rfl
   try simp only [Act.put, putA, putB, putC]
   refine wpF_p (hb := .inr hB) (i := 28) (oi := ⟨some 43, .indexAddr 57 (.tmp 5) (.tmp 16), 0, "ref.go:77", #[⟨1, .data⟩, ⟨0, .phase⟩, ⟨1, .phase⟩, ⟨2, .phase⟩, ⟨3, .phase⟩, ⟨4, .phase⟩, ⟨5, .phase⟩, ⟨6, .phase⟩, ⟨7, .phase⟩, ⟨8, .phase⟩, ⟨9, .phase⟩, ⟨10, .phase⟩, ⟨11, .phase⟩, ⟨12, .phase⟩, ⟨13, .phase⟩, ⟨14, .phase⟩, ⟨15, .phase⟩, ⟨16, .phase⟩, ⟨17, .phase⟩, ⟨18, .phase⟩, ⟨19, .phase⟩, ⟨20, .phase⟩, ⟨21, .phase⟩, ⟨22, .phase⟩, ⟨23, .phase⟩, ⟨24, .phase⟩, ⟨25, .phase⟩, ⟨26, .phase⟩, ⟨27, .phase⟩], none⟩) (v := ?_) ?_ ?_
   rotate_left
   ·intro W; go_simp <;> with_reducible rfl
   try simp only [Act.put, putA, putB, putC]
   refine wpF_do (i := 29) (o := ⟨none, .store 3 (.tmp 43) (.tmp 42), 0, "ref.go:77", #[⟨28, .data⟩, ⟨27, .data⟩, ⟨24, .chain⟩, ⟨0, .phase⟩, ⟨1, .phase⟩, ⟨2, .phase⟩, ⟨3, .phase⟩, ⟨4, .phase⟩, ⟨5, .phase⟩, ⟨6, .phase⟩, ⟨7, .phase⟩, ⟨8, .phase⟩, ⟨9, .phase⟩, ⟨10, .phase⟩, ⟨11, .phase⟩, ⟨12, .phase⟩, ⟨13, .phase⟩, ⟨14, .phase⟩, ⟨15, .phase⟩, ⟨16, .phase⟩, ⟨17, .phase⟩, ⟨18, .phase⟩, ⟨19, .phase⟩, ⟨20, .phase⟩, ⟨21, .phase⟩, ⟨22, .phase⟩, ⟨23, .phase⟩, ⟨24, .phase⟩, ⟨25, .phase⟩, ⟨26, .phase⟩, ⟨27, .phase⟩], none⟩) (by kernel_rfl) rfl (by rfl) fun K hK => ?_
   refine wp_store_int _ _ (by rfl) (by rfl) (t : Int) (by rfl) ro'.drew (by rw [gI_length]; exact L1.out) ?_
   intro w9 r9 hw9
   rw [gI_set] at r9
   refine hK.out _ _ (.inl rfl) ?_
   clear hK K
   try simp only [Act.put, putA, putB, putC]
   refine wpF_done (by kernel_rfl) ?_
   have hw10 := hw9.ofdrew11
   have ra9 := ra.wrote hw10 (by omega)
   have rb9 := rb.wrote hw10 (by omega)
   have rz9 := rz'.wrote hw10 (by omega)
   have hb9 := hw10.below _ _ (by omega) hbx
   have keep : ∀ {g k : Nat} {v : Value}, g < w7.heap.size → wr.cell? ⟨g, k, none⟩ = some v → w9.cell? ⟨g, k, none⟩ = some v := fun {g k v} hg hc => by
    have := hw10.other g (by omega)
    simp only [World.cell?] at hc ⊢
    rw [this]
    exact hc
   have ae9 := keep (by omega) HAe.out
   have ao9 := keep (by omega) HAo.out
   have be9 := keep (by omega) HBe.out
   have bo9 := keep (by omega) HBo.out
   clear ra rb rz' ro' hbx ae ao be bo hw9 hw10 keep HAe HAo HBe HBo hB
   rename World => wx
   go_wp2_with fail
   have hB : Below wx.heap.size wx wx.drew := (Below.refl _ _).drew
   refine wpF_begin 26 (w0 := wx) (by kernel_rfl) ?_
   refine wpF_p (hb := .inr hB) (i := 0) (oi := ⟨some 44, .move (.tmp 6), 3, "ref.go:78", #[], none⟩) (v := ?_) ?_ ?_
   rotate_left
   ·intro W; go_simp <;> with_reducible rfl
   try simp only [Act.put, putA, putB, putC]
   refine wpF_p (hb := .inr hB) (i := 1) (oi := ⟨some 45, .binOp .mul 3 (.const (.int .i64 2)) (.tmp 44) 3, 3, "ref.go:78", #[⟨0, .data⟩], none⟩) (v := ?_) ?_ ?_
   rotate_left
   ·intro W; go_simp <;> with_reducible rfl
   try simp only [Act.put, putA, putB, putC]
   refine wpF_p (hb := .inr hB) (i := 2) (oi := ⟨some 46, .binOp .add 3 (.tmp 45) (.const (.int .i64 1)) 3, 3, "ref.go:78", #[⟨1, .data⟩], none⟩) (v := ?_) ?_ ?_
   rotate_left
   ·intro W; go_simp <;> with_reducible rfl
   try simp only [Act.put, putA, putB, putC]
   refine wpF_p (hb := .inr hB) (i := 3) (oi := ⟨some 47, .move (.tmp 6), 3, "ref.go:78", #[], none⟩) (v := ?_) ?_ ?_
   rotate_left
   ·intro W; go_simp <;> with_reducible rfl
   try simp only [Act.put, putA, putB, putC]
   refine wpF_p (hb := .inr hB) (i := 4) (oi := ⟨some 48, .binOp .mul 3 (.const (.int .i64 2)) (.tmp 47) 3, 3, "ref.go:78", #[⟨3, .data⟩], none⟩) (v := ?_) ?_ ?_
   rotate_left
   ·intro W; go_simp <;> with_reducible rfl
   try simp only [Act.put, putA, putB, putC]
   refine wpF_p (hb := .inr hB) (i := 5) (oi := ⟨some 49, .indexAddr 57 (.tmp 2) (.tmp 48), 0, "ref.go:78", #[⟨4, .data⟩], none⟩) (v := ?_) ?_ ?_
   rotate_left
   ·intro W; go_simp <;> with_reducible rfl
   try simp only [Act.put, putA, putB, putC]
   refine wpF_t (hb := hB) (i := 6) (oi := ⟨some 50, .load 3 (.tmp 49), 3, "ref.go:78", #[⟨5, .data⟩], none⟩) (v := ?_) ?_ ?_
   rotate_left
   ·intro W hW; have hcW := cellB11 ae9 hW; go_simp <;> with_reducible rfl
   try simp only [Act.put, putA, putB, putC]
   refine wpF_p (hb := .inr hB) (i := 7) (oi := ⟨some 51, .move (.tmp 6), 3, "ref.go:78", #[], none⟩) (v := ?_) ?_ ?_
   rotate_left
   ·intro W; go_simp <;> with_reducible rfl
   try simp only [Act.put, putA, putB, putC]
   refine wpF_p (hb := .inr hB) (i := 8) (oi := ⟨some 52, .binOp .mul 3 (.const (.int .i64 2)) (.tmp 51) 3, 3, "ref.go:78", #[⟨7, .data⟩], none⟩) (v := ?_) ?_ ?_
   rotate_left
   ·intro W; go_simp <;> with_reducible rfl
   try simp only [Act.put, putA, putB, putC]
   refine wpF_p (hb := .inr hB) (i := 9) (oi := ⟨some 53, .binOp .add 3 (.tmp 52) (.const (.int .i64 1)) 3, 3, "ref.go:78", #[⟨8, .data⟩], none⟩) (v := ?_) ?_ ?_
   rotate_left
   ·intro W; go_simp <;> with_reducible rfl
   try simp only [Act.put, putA, putB, putC]
   refine wpF_p (hb := .inr hB) (i := 10) (oi := ⟨some 54, .indexAddr 57 (.tmp 3) (.tmp 53), 0, "ref.go:78", #[⟨9, .data⟩], none⟩) (v := ?_) ?_ ?_
   rotate_left
   ·intro W; go_simp <;> with_reducible rfl
   try simp only [Act.put, putA, putB, putC]
   refine wpF_t (hb := hB) (i := 11) (oi := ⟨some 55, .load 3 (.tmp 54), 3, "ref.go:78", #[⟨10, .data⟩], none⟩) (v := ?_) ?_ ?_
   rotate_left
   ·intro W hW; have hcW := cellB11 bo9 hW; go_simp <;> with_reducible rfl
   try simp only [Act.put, putA, putB, putC]
   refine wpF_p (hb := .inr hB) (i := 12) (oi := ⟨some 56, .binOp .mul 3 (.tmp 50) (.tmp 55) 3, 3, "ref.go:78", #[⟨6, .data⟩, ⟨11, .data⟩], none⟩) (v := ?_) ?_ ?_
   rotate_left
   ·intro W; go_simp <;> with_reducible rfl
   try simp only [Act.put, putA, putB, putC]
   refine wpF_p (hb := .inr hB) (i := 13) (oi := ⟨some 57, .move (.tmp 6), 3, "ref.go:78", #[], none⟩) (v := ?_) ?_ ?_
   rotate_left
   ·intro W; go_simp <;> with_reducible rfl
   try simp only [Act.put, putA, putB, putC]
   refine wpF_p (hb := .inr hB) (i := 14) (oi := ⟨some 58, .binOp .mul 3 (.const (.int .i64 2)) (.tmp 57) 3, 3, "ref.go:78", #[⟨13, .data⟩], none⟩) (v := ?_) ?_ ?_
   rotate_left
   ·intro W; go_simp <;> with_reducible rfl
   try simp only [Act.put, putA, putB, putC]
   refine wpF_p (hb := .inr hB) (i := 15) (oi := ⟨some 59, .binOp .add 3 (.tmp 58) (.const (.int .i64 1)) 3, 3, "ref.go:78", #[⟨14, .data⟩], none⟩) (v := ?_) ?_ ?_
   rotate_left
   ·intro W; go_simp <;> with_reducible rfl
   try simp only [Act.put, putA, putB, putC]
   refine wpF_p (hb := .inr hB) (i := 16) (oi := ⟨some 60, .indexAddr 57 (.tmp 2) (.tmp 59), 0, "ref.go:78", #[⟨15, .data⟩], none⟩) (v := ?_) ?_ ?_
   rotate_left
   ·intro W; go_simp <;> with_reducible rfl
   try simp only [Act.put, putA, putB, putC]
   refine wpF_t (hb := hB) (i := 17) (oi := ⟨some 61, .load 3 (.tmp 60), 3, "ref.go:78", #[⟨16, .data⟩], none⟩) (v := ?_) ?_ ?_
   rotate_left
   ·intro W hW; have hcW := cellB11 ao9 hW; go_simp <;> with_reducible rfl
   try simp only [Act.put, putA, putB, putC]
   refine wpF_p (hb := .inr hB) (i := 18) (oi := ⟨some 62, .move (.tmp 6), 3, "ref.go:78", #[], none⟩) (v := ?_) ?_ ?_
   rotate_left
   ·intro W; go_simp <;> with_reducible rfl
   try simp only [Act.put, putA, putB, putC]
   refine wpF_p (hb := .inr hB) (i := 19) (oi := ⟨some 63, .binOp .mul 3 (.const (.int .i64 2)) (.tmp 62) 3, 3, "ref.go:78", #[⟨18, .data⟩], none⟩) (v := ?_) ?_ ?_
   rotate_left
   ·intro W; go_simp <;> with_reducible rfl
   try simp only [Act.put, putA, putB, putC]
   refine wpF_p (hb := .inr hB) (i := 20) (oi := ⟨some 64, .indexAddr 57 (.tmp 3) (.tmp 63), 0, "ref.go:78", #[⟨19, .data⟩], none⟩) (v := ?_) ?_ ?_
   rotate_left
   ·intro W; go_simp <;> with_reducible rfl
   try simp only [Act.put, putA, putB, putC]
   refine wpF_t (hb := hB) (i := 21) (oi := ⟨some 65, .load 3 (.tmp 64), 3, "ref.go:78", #[⟨20, .data⟩], none⟩) (v := ?_) ?_ ?_
   rotate_left
   ·intro W hW; have hcW := cellB11 be9 hW; go_simp <;> with_reducible rfl
   try simp only [Act.put, putA, putB, putC]
   refine wpF_p (hb := .inr hB) (i := 22) (oi := ⟨some 66, .binOp .mul 3 (.tmp 61) (.tmp 65) 3, 3, "ref.go:78", #[⟨17, .data⟩, ⟨21, .data⟩], none⟩) (v := ?_) ?_ ?_
   rotate_left
   ·intro W; go_simp <;> with_reducible rfl
   try simp only [Act.put, putA, putB, putC]
   refine wpF_p (hb := .inr hB) (i := 23) (oi := ⟨some 67, .binOp .add 3 (.tmp 56) (.tmp 66) 3, 3, "ref.go:78", #[⟨12, .data⟩, ⟨22, .data⟩], none⟩) (v := ?_) ?_ ?_
   rotate_left
   ·intro W; go_simp <;> with_reducible rfl
   try simp only [Act.put, putA, putB, putC]
   refine wpF_p (hb := .inr hB) (i := 24) (oi := ⟨some 68, .binOp .rem 3 (.tmp 67) (.const (.int .i64 3329)) 3, 3, "ref.go:78", #[⟨23, .data⟩], none⟩) (v := ?_) ?_ ?_
   rotate_left
   ·intro W; go_simp <;> with_reducible rfl
   try simp only [Act.put, putA, putB, putC]
   refine wpF_p (hb := .inr hB) (i := 25) (oi := ⟨some 69, .indexAddr 57 (.tmp 5) (.tmp 46), 0, "ref.go:78", #[⟨2, .data⟩, ⟨0, .phase⟩, ⟨1, .phase⟩, ⟨2, .phase⟩, ⟨3, .phase⟩, ⟨4, .phase⟩, ⟨5, .phase⟩, ⟨6, .phase⟩, ⟨7, .phase⟩, ⟨8, .phase⟩, ⟨9, .phase⟩, ⟨10, .phase⟩, ⟨11, .phase⟩, ⟨12, .phase⟩, ⟨13, .phase⟩, ⟨14, .phase⟩, ⟨15, .phase⟩, ⟨16, .phase⟩, ⟨17, .phase⟩, ⟨18, .phase⟩, ⟨19, .phase⟩, ⟨20, .phase⟩, ⟨21, .phase⟩, ⟨22, .phase⟩, ⟨23, .phase⟩, ⟨24, .phase⟩], none⟩) (v := ?_) ?_ ?_
   rotate_left
   ·intro W; go_simp <;> with_reducible rfl
   try simp only [Act.put, putA, putB, putC]
   refine wpF_do (i := 26) (o := ⟨none, .store 3 (.tmp 69) (.tmp 68), 0, "ref.go:78", #[⟨25, .data⟩, ⟨24, .data⟩, ⟨0, .phase⟩, ⟨1, .phase⟩, ⟨2, .phase⟩, ⟨3, .phase⟩, ⟨4, .phase⟩, ⟨5, .phase⟩, ⟨6, .phase⟩, ⟨7, .phase⟩, ⟨8, .phase⟩, ⟨9, .phase⟩, ⟨10, .phase⟩, ⟨11, .phase⟩, ⟨12, .phase⟩, ⟨13, .phase⟩, ⟨14, .phase⟩, ⟨15, .phase⟩, ⟨16, .phase⟩, ⟨17, .phase⟩, ⟨18, .phase⟩, ⟨19, .phase⟩, ⟨20, .phase⟩, ⟨21, .phase⟩, ⟨22, .phase⟩, ⟨23, .phase⟩, ⟨24, .phase⟩], none⟩) (by kernel_rfl) rfl (by rfl) fun K hK => ?_
   refine wp_store_int _ _ (by rfl) (by rfl) (t' : Int) (by rfl) r9.drew (by rw [gI_length]; exact L2.out) ?_
   intro w11 r11 hw11
   rw [gI_set] at r11
   refine hK.out _ _ (.inl rfl) ?_
   clear hK K
   try simp only [Act.put, putA, putB, putC]
   refine wpF_done (by kernel_rfl) ?_
   have hw12 := hw11.ofdrew11
   have ra12 := ra9.wrote hw12 (by omega)
   have rb12 := rb9.wrote hw12 (by omega)
   have rz12 := rz9.wrote hw12 (by omega)
   have hb12 := hw12.below _ _ (by omega) hb9
   clear ra9 rb9 rz9 r9 hb9 ae9 ao9 be9 bo9 hw11 hw12
   go_wp2
   go_roundw
   case rel => exact ⟨i + 1, _, by omega, by go_num, HHn, ra12, rb12, rz12, r11, hb12⟩
   case measure => simp [intOf] <;> omega
  ·have hie : i = 128 := by omega
   have hd : decide ((i : Int) < 128) = false := decide_eq_false (by omega)
   have hiI : (128 : Int) ≤ (i : Int) := by omega
   have HE : Hid (gI H = gI (fzF (tm a b))) := by
    show _ = _
    exact gI_congr fun k hk => by rw [HH.out k hk, if_pos (by omega)]
   clear hie
   rw [HE.out] at ro'
   go_wp2_with (first | refine wpList_load_row rfl 57 _ rfl rfl ro' _ Tryz.underlying57 rfl (poInfo _) ?_ | (refine wpList_store_row rfl 57 _ _ rfl (gI (fzF (tm a b))) rfl rfl rz' (by rw [gI_length, gI_length]) (poInfo _) ?_; intro w9 r9 hw9))
   refine bodyPost_row (k := .i64) rfl rfl rfl r9 Tryz.underlying57 rfl (poInfo _) ?_
   exact ⟨by rw [HA.out, HB.out], hw9.below _ _ (by omega) hbx⟩
theorem gI_put (o : Nat → FZ) (m : Nat) (c : FZ) (v : Nat) (hv : v = (o m + c).val) : (gI (fzF o)).set m ((v : Nat) : Int) = gI (fzF (putZ o m c)) := by
 rw [gI_set]
 refine gI_congr fun k _ => ?_
 simp only [fzF, putZ]
 by_cases h : k = m
 ·rw [if_pos h, if_pos h, hv]
 ·rw [if_neg h, if_neg h]
theorem put_facts (x c : FZ) : ∃ s v : Nat, v = (x + c).val ∧ IntKind.i64.wrap (((x.val : Nat) : Int) + ((c.val : Nat) : Int)) = (s : Int) ∧ ((s : Nat) : Int).tmod 3329 = (v : Int) ∧ IntKind.i64.wrap (v : Int) = (v : Int) := by
 have h1 := x.isLt
 have h2 := c.isLt
 have h3 := fz_val_add x c
 refine ⟨x.val + c.val, _, rfl, ?_, ?_, ?_⟩
 ·exact IntWalk.i64_in _ (by omega)
 ·rw [Int.tmod_eq_emod_of_nonneg (by omega), h3]
  omega
 ·exact IntWalk.i64_in _ (by omega)
theorem turn_facts (x c : FZ) : ∃ s t v : Nat, v = (x + -c).val ∧ IntKind.i64.wrap (((x.val : Nat) : Int) + 3329) = (s : Int) ∧ IntKind.i64.wrap ((s : Int) - ((c.val : Nat) : Int)) = (t : Int) ∧ ((t : Nat) : Int).tmod 3329 = (v : Int) ∧ IntKind.i64.wrap (v : Int) = (v : Int) := by
 have h1 := x.isLt
 have h2 := c.isLt
 have h3 : (x + -c).val = (x.val + 3329 - c.val) % 3329 := by
  rw [← fz_val_sub, show x + -c = x - c by grind -lia]
 refine ⟨x.val + 3329, x.val + 3329 - c.val, _, rfl, ?_, ?_, ?_, ?_⟩
 ·exact IntWalk.i64_in _ (by omega)
 ·rw [show (((x.val + 3329 : Nat) : Int) - ((c.val : Nat) : Int)) = ((x.val + 3329 - c.val : Nat) : Int) by omega]
  exact IntWalk.i64_in _ (by omega)
 ·rw [Int.tmod_eq_emod_of_nonneg (by omega), h3]
  omega
 ·exact IntWalk.i64_in _ (by omega)

set_option maxRecDepth 100000 in
set_option maxHeartbeats 4000000 in
theorem product11_any (A B : Array Value) (F G : Nat → Int) (hF : Po F) (hG : Po G) (hA : A = ((gI F).map (Value.int .i64)).toArray) (hB : B = ((gI G).map (Value.int .i64)).toArray) (w : World) :
  Calls Tryz.prog 76 #[.agg A, .agg B] w fun e w' => e = .returned (poV (pd (rF F) (rF G))) ∧ Below w.heap.size w w' := by
 have HF : Hid (Po F) := hF
 have HG : Hid (Po G) := hG
 clear hF hG
 go_enter Tryz.func76, Tryz.ntmps76
 go_wp2_with (refine wpList_box_row (k := .i64) rfl 57 _ rfl (gI F) (by rw [← hA]; rfl) (gI_ne _) (poMax _) ?_)
 intro w1 ra bn sn
 rw [gI_length] at ra
 have hbw := bn
 have n1 : w.heap.size < w1.heap.size := by have := sn.out; omega
 clear bn sn hA
 go_wp2_with (refine wpList_box_row (k := .i64) rfl 57 _ rfl (gI G) (by rw [← hB]; rfl) (gI_ne _) (poMax _) ?_)
 intro w2 rb bn sn
 rw [gI_length] at rb
 replace ra := ra.kept bn
 replace hbw := stepB hbw bn
 have n2 : w1.heap.size < w2.heap.size := by have := sn.out; omega
 clear bn sn hB
 go_wp2_with (refine wpList_alloc_row (k := .i64) rfl 57 rfl (gI fun _ => 0) (alloc_po _) (gI_ne _) (poMax _) ?_)
 intro w3 rz bn sn
 rw [gI_length] at rz
 replace ra := ra.kept bn
 replace rb := rb.kept bn
 replace hbw := stepB hbw bn
 have n3 : w2.heap.size < w3.heap.size := by have := sn.out; omega
 clear bn sn
 go_wp2_with (refine wpList_load_row rfl 57 _ rfl rfl ra _ Tryz.underlying57 rfl (poInfo _) ?_)
 refine (clean11_any _ F HF.out rfl _).mono ?_
 rintro e w4 ⟨rfl, bn⟩
 replace ra := ra.kept bn
 replace rb := rb.kept bn
 replace rz := rz.kept bn
 replace hbw := stepB hbw bn
 have n4 := bn.size
 clear bn
 go_wp2_with (refine wpList_store_row rfl 57 _ _ rfl (gI (fzF (rF F))) rfl rfl ra (by rw [gI_length, gI_length]) (poInfo _) ?_)
 intro w5 ra5 hw5
 replace rb := rb.wrote hw5 (by omega)
 replace rz := rz.wrote hw5 (by omega)
 replace hbw := hw5.below _ _ (Nat.le_refl _) hbw
 have n5 : w4.heap.size ≤ w5.heap.size := Nat.le_of_eq hw5.size.symm
 clear ra hw5
 go_wp2_with (refine wpList_load_row rfl 57 _ rfl rfl rb _ Tryz.underlying57 rfl (poInfo _) ?_)
 refine (clean11_any _ G HG.out rfl _).mono ?_
 rintro e w6 ⟨rfl, bn⟩
 replace ra5 := ra5.kept bn
 replace rb := rb.kept bn
 replace rz := rz.kept bn
 replace hbw := stepB hbw bn
 have n6 := bn.size
 clear bn
 go_wp2_with (refine wpList_store_row rfl 57 _ _ rfl (gI (fzF (rF G))) rfl rfl rb (by rw [gI_length, gI_length]) (poInfo _) ?_)
 intro w7 rb7 hw7
 replace ra5 := ra5.wrote hw7 (by omega)
 replace rz := rz.wrote hw7 (by omega)
 replace hbw := hw7.below _ _ (by omega) hbw
 have n7 : w6.heap.size ≤ w7.heap.size := Nat.le_of_eq hw7.size.symm
 clear rb hw7
 obtain ⟨a, ha⟩ : ∃ a : Nat → FZ, a = rF F := ⟨_, rfl⟩
 obtain ⟨b, hb⟩ : ∃ b : Nat → FZ, b = rF G := ⟨_, rfl⟩
 rw [← ha] at ra5
 rw [← hb] at rb7
 have HA : Hid _ := ha
 have HB : Hid _ := hb
 clear ha hb
 go_wp2_with (refine wpList_alloc_row (k := .i64) rfl 57 rfl (gI fun _ => 0) (alloc_po _) (gI_ne _) (poMax _) ?_)
 intro w8 ro bn sn
 rw [gI_length] at ro
 replace ra5 := ra5.kept bn
 replace rb7 := rb7.kept bn
 replace rz := rz.kept bn
 replace hbw := stepB hbw bn
 have n8 : w7.heap.size < w8.heap.size := by have := sn.out; omega
 clear bn sn
 have h00 : gI (fun _ => 0) = gI (fzF fun _ => 0) := rfl
 rw [h00] at ro
 clear h00
 go_wp2
 go_loopw [6] (fun iv wx => ∃ (i : Nat) (o : Nat → FZ), i ≤ 256 ∧ iv = .int .i64 (i : Int) ∧ Hid (Pp a b i 0 o) ∧ RowAt .i64 57 w.heap.size 256 (gI (fzF a)) wx ∧ RowAt .i64 57 w1.heap.size 256 (gI (fzF b)) wx ∧ RowAt .i64 57 w2.heap.size 256 (gI fun _ => 0) wx ∧ RowAt .i64 57 w7.heap.size 256 (gI (fzF o)) wx ∧ Below w.heap.size w wx) (fun iv _ => 256 - (intOf iv).toNat)
 case atStart => exact ⟨0, fun _ => 0, by omega, rfl, Pp.start a b _ (fun _ _ => rfl), ra5, rb7, rz, ro, hbw⟩
 case round =>
  obtain ⟨i, o, hi, rfl, HP, ra, rb, rz', ro', hbx⟩ := hrel
  clear ra5 rb7 rz ro hbw
  by_cases hlt : i < 256
  ·have hd : decide ((i : Int) < 256) = true := decide_eq_true (by omega)
   have hiI : (i : Int) < 256 := by omega
   go_wp2
   go_loopw [7] (fun jv wx => ∃ (j : Nat) (o : Nat → FZ), j ≤ 256 ∧ jv = .int .i64 (j : Int) ∧ Hid (Pp a b i j o) ∧ RowAt .i64 57 w.heap.size 256 (gI (fzF a)) wx ∧ RowAt .i64 57 w1.heap.size 256 (gI (fzF b)) wx ∧ RowAt .i64 57 w2.heap.size 256 (gI fun _ => 0) wx ∧ RowAt .i64 57 w7.heap.size 256 (gI (fzF o)) wx ∧ Below w.heap.size w wx) (fun jv _ => 256 - (intOf jv).toNat)
   case atStart => exact ⟨0, o, by omega, rfl, HP, ra, rb, rz', ro', hbx⟩
   case round =>
    obtain ⟨j, o2, hj, rfl, HP2, ra2, rb2, rz2, ro2, hbx2⟩ := hrel
    clear ra rb rz' ro' hbx HP
    by_cases hltj : j < 256
    ·have hdj : decide ((j : Int) < 256) = true := decide_eq_true (by omega)
     have hjI : (j : Int) < 256 := by omega
     have ca := ra2.cell (j := i) (by rw [gI_length]; exact hlt)
     have cb := rb2.cell (j := j) (by rw [gI_length]; exact hltj)
     rw [gI_get _ hlt] at ca
     rw [gI_get _ hltj] at cb
     simp only [fzF] at ca cb
     obtain ⟨m, nv, hnv, y1, y2, y3⟩ := mul_facts (a i) (b j)
     obtain ⟨c, hc⟩ : ∃ c : FZ, c = a i * b j := ⟨_, rfl⟩
     rw [← hc] at hnv
     have HN : Hid (nv = c.val) := hnv
     have HCc : Hid _ := hc
     generalize (a i).val = A0 at ca y1
     generalize (b j).val = B0 at cb y1
     clear hnv hc
     go_wp2_with fail
     refine wpG_begin (by kernel_rfl) ?_
     refine wpG_t (i := 0) (oi := ⟨some 21, .move (.tmp 6), 3, "ref.go:90", #[], none⟩) (v := ?_) ?_ ?_
     rotate_left
     ·intro W hW; go_simp <;> with_reducible rfl
     try simp only [Act.put, putA, putB, putC]
     refine wpG_t (i := 1) (oi := ⟨some 22, .indexAddr 57 (.tmp 2) (.tmp 21), 0, "ref.go:90", #[⟨0, .data⟩], none⟩) (v := ?_) ?_ ?_
     rotate_left
     ·intro W hW; go_simp <;> with_reducible rfl
     try simp only [Act.put, putA, putB, putC]
     refine wpG_t (i := 2) (oi := ⟨some 23, .load 3 (.tmp 22), 3, "ref.go:90", #[⟨1, .data⟩], none⟩) (v := ?_) ?_ ?_
     rotate_left
     ·intro W hW; have hcW := cellU ca hW; go_simp <;> with_reducible rfl
     try simp only [Act.put, putA, putB, putC]
     refine wpG_t (i := 3) (oi := ⟨some 24, .move (.tmp 7), 3, "ref.go:90", #[], none⟩) (v := ?_) ?_ ?_
     rotate_left
     ·intro W hW; go_simp <;> with_reducible rfl
     try simp only [Act.put, putA, putB, putC]
     refine wpG_t (i := 4) (oi := ⟨some 25, .indexAddr 57 (.tmp 3) (.tmp 24), 0, "ref.go:90", #[⟨3, .data⟩], none⟩) (v := ?_) ?_ ?_
     rotate_left
     ·intro W hW; go_simp <;> with_reducible rfl
     try simp only [Act.put, putA, putB, putC]
     refine wpG_t (i := 5) (oi := ⟨some 26, .load 3 (.tmp 25), 3, "ref.go:90", #[⟨4, .data⟩], none⟩) (v := ?_) ?_ ?_
     rotate_left
     ·intro W hW; have hcW := cellU cb hW; go_simp <;> with_reducible rfl
     try simp only [Act.put, putA, putB, putC]
     refine wpG_t (i := 6) (oi := ⟨some 27, .binOp .mul 3 (.tmp 23) (.tmp 26) 3, 3, "ref.go:90", #[⟨2, .data⟩, ⟨5, .data⟩], none⟩) (v := ?_) ?_ ?_
     rotate_left
     ·intro W hW; go_simp <;> with_reducible rfl
     try simp only [Act.put, putA, putB, putC]
     refine wpG_t (i := 7) (oi := ⟨some 28, .binOp .rem 3 (.tmp 27) (.const (.int .i64 3329)) 3, 3, "ref.go:90", #[⟨6, .data⟩], none⟩) (v := ?_) ?_ ?_
     rotate_left
     ·intro W hW; go_simp <;> with_reducible rfl
     try simp only [Act.put, putA, putB, putC]
     refine wpG_t (i := 8) (oi := ⟨some 8, .assign (.tmp 28), 3, "ref.go:90", #[⟨7, .data⟩, ⟨0, .phase⟩, ⟨1, .phase⟩, ⟨2, .phase⟩, ⟨3, .phase⟩, ⟨4, .phase⟩, ⟨5, .phase⟩, ⟨6, .phase⟩, ⟨7, .phase⟩], none⟩) (v := ?_) ?_ ?_
     rotate_left
     ·intro W hW; go_simp <;> with_reducible rfl
     try simp only [Act.put, putA, putB, putC]
     refine wpG_done (by kernel_rfl) ?_
     have ra3 := ra2.drew
     have rb3 := rb2.drew
     have rz3 := rz2.drew
     have ro3 := ro2.drew
     have hb3 := hbx2.drew
     clear ra2 rb2 rz2 ro2 hbx2 ca cb
     generalize wr.drew = wd at ra3 rb3 rz3 ro3 hb3 ⊢
     obtain ⟨q, hq⟩ : ∃ q : Nat, q = i + j := ⟨_, rfl⟩
     have xq : IntKind.i64.wrap ((i : Int) + (j : Int)) = (q : Int) := by rw [IntWalk.i64_in _ (by omega)]; omega
     by_cases hs : q < 256
     ·have hdq : decide ((q : Int) < 256) = true := decide_eq_true (by omega)
      have hqI : (q : Int) < 256 := by omega
      have co := ro3.cell (j := q) (by rw [gI_length]; exact hs)
      rw [gI_get _ hs] at co
      simp only [fzF] at co
      obtain ⟨s, v, hv, u1, u2, u3⟩ := put_facts (o2 q) c
      rw [← HN.out] at u1
      have HPn : Hid (Pp a b i (j + 1) (putZ o2 q c)) := by
       have := HP2.out.put (by omega)
       rw [← hq, ← HCc.out] at this
       exact this
      have HPut : Hid _ := gI_put o2 q c v hv
      have HS : Hid (q < 256) := hs
      generalize (o2 q).val = O at co u1
      clear hv hq
      go_wp2_with (refine wpList_store_int rfl _ _ rfl rfl (v : Int) rfl ro3 (by rw [gI_length]; exact HS.out) ?_)
      intro w9 r9 hw9
      rw [HPut.out] at r9
      have ra9 := ra3.wrote hw9 (by omega)
      have rb9 := rb3.wrote hw9 (by omega)
      have rz9 := rz3.wrote hw9 (by omega)
      have hb9 := hw9.below _ _ (by omega) hb3
      clear ra3 rb3 rz3 ro3 hb3 co hw9
      go_wp2
      go_roundw
      case rel => exact ⟨j + 1, _, by omega, by go_num, HPn, ra9, rb9, rz9, r9, hb9⟩
      case measure => simp [intOf] <;> omega
     ·have hdq : decide ((q : Int) < 256) = false := decide_eq_false (by omega)
      have hqI : (256 : Int) ≤ (q : Int) := by omega
      obtain ⟨d, hdd⟩ : ∃ d : Nat, d = q - 256 := ⟨_, rfl⟩
      have xd : IntKind.i64.wrap ((q : Int) - 256) = (d : Int) := by rw [IntWalk.i64_in _ (by omega)]; omega
      have hd256 : d < 256 := by omega
      have hdI : (d : Int) < 256 := by omega
      have co := ro3.cell (j := d) (by rw [gI_length]; exact hd256)
      rw [gI_get _ hd256] at co
      simp only [fzF] at co
      obtain ⟨s, t, v, hv, u1, u2, u3, u4⟩ := turn_facts (o2 d) c
      rw [← HN.out] at u2
      have HPn : Hid (Pp a b i (j + 1) (putZ o2 d (-c))) := by
       have := HP2.out.turn hlt hltj (by omega)
       rw [← hq, ← hdd, ← HCc.out] at this
       exact this
      have HPut : Hid _ := gI_put o2 d (-c) v hv
      have HS : Hid (d < 256) := hd256
      generalize (o2 d).val = O at co u1
      clear hv hq hdd
      go_wp2_with (refine wpList_store_int rfl _ _ rfl rfl (v : Int) rfl ro3 (by rw [gI_length]; exact HS.out) ?_)
      intro w9 r9 hw9
      rw [HPut.out] at r9
      have ra9 := ra3.wrote hw9 (by omega)
      have rb9 := rb3.wrote hw9 (by omega)
      have rz9 := rz3.wrote hw9 (by omega)
      have hb9 := hw9.below _ _ (by omega) hb3
      clear ra3 rb3 rz3 ro3 hb3 co hw9
      go_wp2
      go_roundw
      case rel => exact ⟨j + 1, _, by omega, by go_num, HPn, ra9, rb9, rz9, r9, hb9⟩
      case measure => simp [intOf] <;> omega
    ·have hje : j = 256 := by omega
     have hdj : decide ((j : Int) < 256) = false := decide_eq_false (by omega)
     have hjI : (256 : Int) ≤ (j : Int) := by omega
     have HPn : Hid (Pp a b (i + 1) 0 o2) := by
      have := HP2.out
      rw [hje] at this
      exact this.next
     clear hje
     go_wp2
     go_roundw
     case rel => exact ⟨i + 1, o2, by omega, by go_num, HPn, ra2, rb2, rz2, ro2, hbx2⟩
     case measure => simp [intOf] <;> omega
  ·have hie : i = 256 := by omega
   have hd : decide ((i : Int) < 256) = false := decide_eq_false (by omega)
   have hiI : (256 : Int) ≤ (i : Int) := by omega
   have HE : Hid (gI (fzF o) = gI (fzF (pd a b))) := by
    show _ = _
    have hp := HP.out
    rw [hie] at hp
    exact fz_congr fun k hk => hp.done k hk
   clear hie
   rw [HE.out] at ro'
   go_wp2_with (first | refine wpList_load_row rfl 57 _ rfl rfl ro' _ Tryz.underlying57 rfl (poInfo _) ?_ | (refine wpList_store_row rfl 57 _ _ rfl (gI (fzF (pd a b))) rfl rfl rz' (by rw [gI_length, gI_length]) (poInfo _) ?_; intro w9 r9 hw9))
   refine bodyPost_row (k := .i64) rfl rfl rfl r9 Tryz.underlying57 rfl (poInfo _) ?_
   exact ⟨by rw [HA.out, HB.out], hw9.below _ _ (by omega) hbx⟩
end Go.Proofs.YtmhbjaampobcbaaGreatDoor

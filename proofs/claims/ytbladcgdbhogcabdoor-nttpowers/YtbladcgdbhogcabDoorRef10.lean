/- What the document's own rests, powers and rounding answer: contracts of the reference of layer 10. -/
import Derived.Test.YtbladcgdbhogcabDoorZMath
import Derived.Test.YtbladcgdbhogcabDoorLib
import Derived.Test.YtbladcgdbhogcabDoorChecked
import Derived.OwnWalk
import Derived.Deep.QuietTactic
import Derived.BigQuiet
import Derived.WalkSpells
import Derived.RegionTactic
import Derived.BigRegion
namespace Go.Proofs.YtbladcgdbhogcabDoor
open Go.ChangeShapes Go.WideShapes Go.ChangeAt Go.RowKit
set_option linter.unusedSimpArgs false
set_option linter.unusedVariables false

/-- A number of 64 bits. -/
abbrev In64 (x : Int) : Prop := -9223372036854775808 ≤ x ∧ x ≤ 9223372036854775807
theorem retZ {k : IntKind} {a b : Int} (h : a = b) : Ending.returned (.int k a) = .returned (.int k b) := by rw [h]

theorem modZ_any (x : Int) (hx : In64 x) (w : World) :
    Calls Tryd.prog 33 #[.int .i64 x] w fun e w' => e = .returned (.int .i64 ((rsZ x : Nat) : Int)) ∧ w' = w := by
  rw [rsZ_int]
  obtain ⟨r, hr⟩ : ∃ r : Int, r = x.tmod 3329 := ⟨_, rfl⟩
  have hr' : x.tmod 3329 = r := hr.symm
  have HR : Hid ((0 ≤ x → r = x % 3329) ∧ (x < 0 → r ≤ 0 ∧ (r = 0 → x % 3329 = 0) ∧ (r < 0 → r + 3329 = x % 3329)) ∧ -3329 < r ∧ r < 3329) := by
    show _ ∧ _
    refine ⟨fun h => by rw [hr, Int.tmod_eq_emod_of_nonneg h], fun h => ?_, ?_⟩
    · obtain ⟨y, rfl⟩ : ∃ y, x = -y := ⟨-x, by omega⟩
      rw [Int.neg_tmod, Int.tmod_eq_emod_of_nonneg (by omega)] at hr
      omega
    · by_cases h : 0 ≤ x
      · rw [Int.tmod_eq_emod_of_nonneg h] at hr; omega
      · obtain ⟨y, rfl⟩ : ∃ y, x = -y := ⟨-x, by omega⟩
        rw [Int.neg_tmod, Int.tmod_eq_emod_of_nonneg (by omega)] at hr
        omega
  have hb := HR.out.2.2
  clear hr
  by_cases h0 : r < 0
  · have hd : decide (r < 0) = true := decide_eq_true h0
    go_enter Tryd.func33, Tryd.ntmps33
    go_wp2
    go_ret
    refine ⟨retZ ?_, rfl⟩
    have := HR.out
    omega
  · have hd : decide (r < 0) = false := decide_eq_false h0
    go_enter Tryd.func33, Tryd.ntmps33
    go_wp2
    go_ret
    refine ⟨retZ ?_, rfl⟩
    have := HR.out
    omega

set_option maxRecDepth 100000 in
set_option maxHeartbeats 1000000 in
theorem powerZ_any (a n : Int) (ha : In64 a) (hn : In64 n) (w : World) :
    Calls Tryd.prog 34 #[.int .i64 a, .int .i64 n] w fun e w' => e = .returned (.int .i64 ((pwZ a n : Nat) : Int)) ∧ w' = w := by
  obtain ⟨Z, hZ⟩ : ∃ Z : Nat, Z = pwZ a n := ⟨_, rfl⟩
  rw [← hZ]
  have HZZ : Hid _ := hZ
  clear hZ
  by_cases h0 : n < 0
  · have hd : decide (n < 0) = true := decide_eq_true h0
    have HF : Hid (Z = 0) := by show _ = _; rw [HZZ.out]; unfold pwZ; rw [if_pos h0]
    go_enter Tryd.func34, Tryd.ntmps34
    go_wp2
    go_ret
    exact ⟨retZ (by rw [HF.out]; rfl), rfl⟩
  have hd0 : decide (n < 0) = false := decide_eq_false h0
  have hn0 : 0 ≤ n := by omega
  obtain ⟨m, hm⟩ : ∃ m : Nat, n = (m : Int) := ⟨n.toNat, by omega⟩
  subst hm
  have HF : Hid (Z = rsZ a ^ m % 3329) := by show _ = _; rw [HZZ.out]; unfold pwZ; rw [if_neg h0]; rfl
  have hlt := rsZ_lt a
  clear h0 HZZ
  go_enter Tryd.func34, Tryd.ntmps34
  go_wp2_with fail
  refine (modZ_any a ha _).mono ?_
  rintro e w1 ⟨rfl, rfl⟩
  generalize rsZ a = x at hlt HF
  clear ha
  by_cases hz : x = 0 ∧ 0 < m
  · obtain ⟨rfl, hm0⟩ := hz
    have d2 : decide ((0 : Int) < (m : Int)) = true := decide_eq_true (by omega)
    have d3 : (0 : Int) < (m : Int) := by omega
    go_wp2
    go_ret
    refine ⟨retZ ?_, rfl⟩
    rw [HF.out, Nat.zero_pow hm0]
    rfl
  obtain ⟨r, hr⟩ : ∃ r : Nat, r = m % 3328 := ⟨_, rfl⟩
  have HG : Hid (Z = x ^ r % 3329) := by
    show _ = _
    rw [HF.out, hr]
    by_cases hx : x = 0
    · have : m = 0 := by omega
      rw [this]
    · exact pow_rest x m (by rw [Nat.mod_eq_of_lt hlt]; exact hx)
  have hrI : (m : Int) % 3328 = (r : Int) := by omega
  have hrb : r < 3328 := by omega
  have HZ : Hid (x = 0 → m = 0) := fun h => by omega
  clear hr hz HF
  by_cases hx0 : x = 0
  · have hm0 := HZ.out hx0
    have hr0 : r = 0 := by omega
    have d1 : (((x : Nat) : Int) == 0) = true := by simp [hx0]
    have d2 : decide ((0 : Int) < (m : Int)) = false := decide_eq_false (by omega)
    have d3 : ¬ (0 : Int) < (m : Int) := by omega
    have HR0 : Hid (r = 0) := hr0
    clear HZ hr0 hm0 hx0
    go_wp2_with fail
    go_loop [5, 6] (fun ov iv => ∃ i o : Nat, i ≤ r ∧ ov = .int .i64 (o : Int) ∧ Hid (o = x ^ i % 3329) ∧ o < 3329 ∧ iv = .int .i64 (i : Int)) (fun _ iv => r - (intOf iv).toNat)
    case atStart => exact ⟨0, 1, by omega, rfl, by show _ = _; rw [Nat.pow_zero], by omega, rfl⟩
    case round =>
      obtain ⟨i, o, hi, rfl, HO, ho, rfl⟩ := hrel
      have hl : ¬ i < r := by have := HR0.out; omega
      have hie : i = r := by omega
      have hd : decide ((i : Int) < (r : Int)) = false := decide_eq_false (by omega)
      have hiI : (r : Int) ≤ (i : Int) := by omega
      have HO2 : Hid (o = x ^ r % 3329) := by rw [← hie]; exact HO
      clear hie HO
      go_wp2
      go_ret
      exact ⟨retZ (by rw [show o = Z from HO2.out.trans HG.out.symm]), rfl⟩
  · have d1 : (((x : Nat) : Int) == 0) = false := by simp; omega
    clear HZ
    go_wp2_with fail
    go_loop [5, 6] (fun ov iv => ∃ i o : Nat, i ≤ r ∧ ov = .int .i64 (o : Int) ∧ Hid (o = x ^ i % 3329) ∧ o < 3329 ∧ iv = .int .i64 (i : Int)) (fun _ iv => r - (intOf iv).toNat)
    case atStart => exact ⟨0, 1, by omega, rfl, by show _ = _; rw [Nat.pow_zero], by omega, rfl⟩
    case round =>
      obtain ⟨i, o, hi, rfl, HO, ho, rfl⟩ := hrel
      by_cases hl : i < r
      · have hd : decide ((i : Int) < (r : Int)) = true := decide_eq_true (by omega)
        have hiI : (i : Int) < (r : Int) := by omega
        obtain ⟨y, hy⟩ : ∃ y : Nat, y = o * x := ⟨_, rfl⟩
        have hyb : y ≤ 3329 * 3329 := by rw [hy]; exact Nat.mul_le_mul (by omega) (by omega)
        have e1 : (o : Int) * (x : Int) = (y : Int) := by rw [hy, Int.natCast_mul]
        obtain ⟨z, hz⟩ : ∃ z : Nat, z = y % 3329 := ⟨_, rfl⟩
        have e2 : (y : Int) % 3329 = (z : Int) := by omega
        have HO2 : Hid (z = x ^ (i + 1) % 3329) := by show _ = _; rw [hz, hy, HO.out, Nat.mod_mul_mod, Nat.pow_succ]
        have hzb : z < 3329 := by omega
        clear hy hz
        go_wp2
        go_round
        case rel => exact ⟨i + 1, z, by omega, by go_num, HO2, hzb, by go_num⟩
        case measure => simp [intOf] <;> omega
      · have hie : i = r := by omega
        have hd : decide ((i : Int) < (r : Int)) = false := decide_eq_false (by omega)
        have hiI : (r : Int) ≤ (i : Int) := by omega
        have HO2 : Hid (o = x ^ r % 3329) := by rw [← hie]; exact HO
        clear hie HO
        go_wp2
        go_ret
        exact ⟨retZ (by rw [show o = Z from HO2.out.trans HG.out.symm]), rfl⟩
end Go.Proofs.YtbladcgdbhogcabDoor

/- What package zq's rests, sums, differences and products answer: contracts, first part. -/
import Derived.Test.YtbladcgdbhogcabDoorZMath2
import Derived.Test.YtbladcgdbhogcabDoorRef10
namespace Go.Proofs.YtbladcgdbhogcabDoor
open Go.ChangeShapes Go.WideShapes Go.ChangeAt Go.RowKit
set_option linter.unusedSimpArgs false
set_option linter.unusedVariables false

theorem and_none : bits .and .i64 3329 0 = 0 := by decide +kernel
theorem and_all : bits .and .i64 3329 (-1) = 3329 := by decide +kernel
theorem zlifted_any (x : Int) (h1 : -3329 ≤ x) (h2 : x < 3329) (w : World) :
    Calls Tryd.prog 16 #[.int .i64 x] w fun e w' => e = .returned (.int .i64 ((rsZ x : Nat) : Int)) ∧ w' = w := by
  rw [rsZ_int]
  have a0 := and_none
  have a1 := and_all
  by_cases h0 : x < 0
  · have e1 : x / 9223372036854775808 = -1 := by omega
    have e2 : x / 2 ^ 63 = -1 := by omega
    have HE : Hid (x + 3329 = x % 3329) := by show _ = _; omega
    go_enter Tryd.func16, Tryd.ntmps16
    go_wp2
    go_ret
    exact ⟨retZ HE.out, rfl⟩
  · have e1 : x / 9223372036854775808 = 0 := by omega
    have e2 : x / 2 ^ 63 = 0 := by omega
    have HE : Hid (x = x % 3329) := by show _ = _; omega
    go_enter Tryd.func16, Tryd.ntmps16
    go_wp2
    go_ret
    exact ⟨retZ (by have := HE.out; omega), rfl⟩

theorem tmod_rest (x : Int) : ∃ r : Int, x.tmod 3329 = r ∧ -3329 < r ∧ r < 3329 ∧ rsZ r = rsZ x := by
  refine ⟨_, rfl, ?_⟩
  unfold rsZ
  by_cases h : 0 ≤ x
  · rw [Int.tmod_eq_emod_of_nonneg h]
    omega
  · obtain ⟨y, rfl⟩ : ∃ y, x = -y := ⟨-x, by omega⟩
    rw [Int.neg_tmod, Int.tmod_eq_emod_of_nonneg (by omega)]
    omega
theorem zmod_any (x : Int) (hx : In64 x) (w : World) :
    Calls Tryd.prog 15 #[.int .i64 x] w fun e w' => e = .returned (.int .i64 ((rsZ x : Nat) : Int)) ∧ w' = w := by
  obtain ⟨r, hr, h1, h2, h3⟩ := tmod_rest x
  rw [← h3]
  have H3 : Hid _ := h3
  clear h3
  go_enter Tryd.func15, Tryd.ntmps15
  go_wp2_with fail
  refine (zlifted_any r (by omega) h2 _).mono ?_
  rintro e w1 ⟨rfl, rfl⟩
  go_wp2
  go_ret
  exact ⟨rfl, rfl⟩

theorem zadd_any (a b : Int) (ha : In64 a) (hb : In64 b) (w : World) :
    Calls Tryd.prog 28 #[.int .i64 a, .int .i64 b] w fun e w' => e = .returned (.int .i64 ((rsZ (a + b) : Nat) : Int)) ∧ w' = w := by
  have HF : Hid (rsZ (a + b) = rsZ (((rsZ a : Nat) : Int) + ((rsZ b : Nat) : Int) - 3329)) := by
    show _ = _
    rw [rsZ_int, rsZ_int]
    unfold rsZ
    omega
  have h1 := rsZ_lt a
  have h2 := rsZ_lt b
  go_enter Tryd.func28, Tryd.ntmps28
  go_wp2_with fail
  refine (zmod_any a ha _).mono ?_
  rintro e w1 ⟨rfl, rfl⟩
  go_wp2_with fail
  refine (zmod_any b hb _).mono ?_
  rintro e w2 ⟨rfl, rfl⟩
  generalize rsZ a = p at h1 HF ⊢
  generalize rsZ b = q at h2 HF ⊢
  go_wp2_with fail
  refine (zlifted_any _ (by omega) (by omega) _).mono ?_
  rintro e w3 ⟨rfl, rfl⟩
  go_wp2
  go_ret
  exact ⟨retZ (by rw [HF.out]), rfl⟩

theorem zsub_any (a b : Int) (ha : In64 a) (hb : In64 b) (w : World) :
    Calls Tryd.prog 7 #[.int .i64 a, .int .i64 b] w fun e w' => e = .returned (.int .i64 ((rsZ (a - b) : Nat) : Int)) ∧ w' = w := by
  have HF : Hid (rsZ (a - b) = rsZ (((rsZ a : Nat) : Int) - ((rsZ b : Nat) : Int))) := by
    show _ = _
    rw [rsZ_int, rsZ_int]
    unfold rsZ
    omega
  have h1 := rsZ_lt a
  have h2 := rsZ_lt b
  go_enter Tryd.func7, Tryd.ntmps7
  go_wp2_with fail
  refine (zmod_any a ha _).mono ?_
  rintro e w1 ⟨rfl, rfl⟩
  go_wp2_with fail
  refine (zmod_any b hb _).mono ?_
  rintro e w2 ⟨rfl, rfl⟩
  generalize rsZ a = p at h1 HF ⊢
  generalize rsZ b = q at h2 HF ⊢
  go_wp2_with fail
  refine (zlifted_any _ (by omega) (by omega) _).mono ?_
  rintro e w3 ⟨rfl, rfl⟩
  go_wp2
  go_ret
  exact ⟨retZ (by rw [HF.out]), rfl⟩

theorem zmul_any (a b : Int) (ha : In64 a) (hb : In64 b) (w : World) :
    Calls Tryd.prog 6 #[.int .i64 a, .int .i64 b] w fun e w' => e = .returned (.int .i64 ((rsZ (a * b) : Nat) : Int)) ∧ w' = w := by
  have HF : Hid (rsZ (a * b) = rsZ ((rsZ a * rsZ b : Nat) : Int)) := by
    show _ = _
    rw [rs_mul, rsZ_nat]
  have h1 := rsZ_lt a
  have h2 := rsZ_lt b
  go_enter Tryd.func6, Tryd.ntmps6
  go_wp2_with fail
  refine (zmod_any a ha _).mono ?_
  rintro e w1 ⟨rfl, rfl⟩
  go_wp2_with fail
  refine (zmod_any b hb _).mono ?_
  rintro e w2 ⟨rfl, rfl⟩
  generalize rsZ a = p at h1 HF ⊢
  generalize rsZ b = q at h2 HF ⊢
  obtain ⟨y, hy⟩ : ∃ y : Nat, y = p * q := ⟨_, rfl⟩
  have hyb : y ≤ 3329 * 3329 := by rw [hy]; exact Nat.mul_le_mul (by omega) (by omega)
  have e1 : (p : Int) * (q : Int) = (y : Int) := by rw [hy, Int.natCast_mul]
  rw [← hy] at HF
  clear hy
  go_wp2_with fail
  refine (zmod_any (y : Int) ⟨by omega, by omega⟩ _).mono ?_
  rintro e w3 ⟨rfl, rfl⟩
  go_wp2
  go_ret
  exact ⟨retZ (by rw [HF.out]), rfl⟩
end Go.Proofs.YtbladcgdbhogcabDoor

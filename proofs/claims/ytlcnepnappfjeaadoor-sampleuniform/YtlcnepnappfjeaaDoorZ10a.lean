/- What package zq's rests, sums, differences and products answer: contracts, first part. -/
import Derived.Test.YtlcnepnappfjeaaDoorNum
import Derived.Test.YtlcnepnappfjeaaDoorRef10
namespace Go.Proofs.YtlcnepnappfjeaaDoor
open Go.ChangeShapes Go.WideShapes Go.ChangeAt Go.RowKit
set_option linter.unusedSimpArgs false
set_option linter.unusedVariables false

theorem and_none : bits .and .i64 3329 0 = 0 := by decide +kernel
theorem and_all : bits .and .i64 3329 (-1) = 3329 := by decide +kernel
theorem zlifted_any (x : Int) (h1 : -3329 ≤ x) (h2 : x < 3329) (w : World) :
    Calls Tryd.prog 55 #[.int .i64 x] w fun e w' => e = .returned (.int .i64 ((rsZ x : Nat) : Int)) ∧ w' = w := by
  rw [rsZ_int]
  have a0 := and_none
  have a1 := and_all
  by_cases h0 : x < 0
  · have e1 : x / 9223372036854775808 = -1 := by omega
    have e2 : x / 2 ^ 63 = -1 := by omega
    have HE : Hid (x + 3329 = x % 3329) := by show _ = _; omega
    go_enter Tryd.func55, Tryd.ntmps55
    go_wp2
    go_ret
    exact ⟨retZ HE.out, rfl⟩
  · have e1 : x / 9223372036854775808 = 0 := by omega
    have e2 : x / 2 ^ 63 = 0 := by omega
    have HE : Hid (x = x % 3329) := by show _ = _; omega
    go_enter Tryd.func55, Tryd.ntmps55
    go_wp2
    go_ret
    exact ⟨retZ (by have := HE.out; omega), rfl⟩

theorem tmod_rest (x : Int) : ∃ r : Int, x.tmod 3329 = r ∧ -3329 < r ∧ r < 3329 ∧ rsZ r = rsZ x := by
  refine ⟨_, rfl, ?_⟩
  unfold rsZ
  by_cases h : 0 ≤ x
  · rw [Int.tmod_eq_emod_of_nonneg h]
    omega
  · obtain ⟨y, rfl⟩ : ∃ y, x = -y := ⟨-x, by omega⟩
    rw [Int.neg_tmod, Int.tmod_eq_emod_of_nonneg (by omega)]
    omega
theorem zmod_any (x : Int) (hx : In64 x) (w : World) :
    Calls Tryd.prog 41 #[.int .i64 x] w fun e w' => e = .returned (.int .i64 ((rsZ x : Nat) : Int)) ∧ w' = w := by
  obtain ⟨r, hr, h1, h2, h3⟩ := tmod_rest x
  rw [← h3]
  have H3 : Hid _ := h3
  clear h3
  go_enter Tryd.func41, Tryd.ntmps41
  go_wp2_with fail
  refine (zlifted_any r (by omega) h2 _).mono ?_
  rintro e w1 ⟨rfl, rfl⟩
  go_wp2
  go_ret
  exact ⟨rfl, rfl⟩

theorem zsub_any (a b : Int) (ha : In64 a) (hb : In64 b) (w : World) :
    Calls Tryd.prog 33 #[.int .i64 a, .int .i64 b] w fun e w' => e = .returned (.int .i64 ((rsZ (a - b) : Nat) : Int)) ∧ w' = w := by
  have HF : Hid (rsZ (a - b) = rsZ (((rsZ a : Nat) : Int) - ((rsZ b : Nat) : Int))) := by
    show _ = _
    rw [rsZ_int, rsZ_int]
    unfold rsZ
    omega
  have h1 := rsZ_lt a
  have h2 := rsZ_lt b
  go_enter Tryd.func33, Tryd.ntmps33
  go_wp2_with fail
  refine (zmod_any a ha _).mono ?_
  rintro e w1 ⟨rfl, rfl⟩
  go_wp2_with fail
  refine (zmod_any b hb _).mono ?_
  rintro e w2 ⟨rfl, rfl⟩
  generalize rsZ a = p at h1 HF ⊢
  generalize rsZ b = q at h2 HF ⊢
  go_wp2_with fail
  refine (zlifted_any _ (by omega) (by omega) _).mono ?_
  rintro e w3 ⟨rfl, rfl⟩
  go_wp2
  go_ret
  exact ⟨retZ (by rw [HF.out]), rfl⟩

end Go.Proofs.YtlcnepnappfjeaaDoor

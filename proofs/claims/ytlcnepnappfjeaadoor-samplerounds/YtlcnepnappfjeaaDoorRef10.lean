/- What the document's own rests, powers and rounding answer: contracts of the reference of layer 10. -/
import Derived.Test.YtlcnepnappfjeaaDoorNum
import Derived.Test.YtlcnepnappfjeaaDoorBase
import Derived.Test.YtlcnepnappfjeaaDoorChecked
import Derived.OwnWalk
import Derived.Deep.QuietTactic
import Derived.BigQuiet
import Derived.WalkSpells
import Derived.RegionTactic
import Derived.BigRegion
namespace Go.Proofs.YtlcnepnappfjeaaDoor
open Go.ChangeShapes Go.WideShapes Go.ChangeAt Go.RowKit
set_option linter.unusedSimpArgs false
set_option linter.unusedVariables false

/-- A number of 64 bits. -/
abbrev In64 (x : Int) : Prop := -9223372036854775808 ≤ x ∧ x ≤ 9223372036854775807
theorem retZ {k : IntKind} {a b : Int} (h : a = b) : Ending.returned (.int k a) = .returned (.int k b) := by rw [h]

theorem modZ_any (x : Int) (hx : In64 x) (w : World) :
    Calls Tryd.prog 43 #[.int .i64 x] w fun e w' => e = .returned (.int .i64 ((rsZ x : Nat) : Int)) ∧ w' = w := by
  rw [rsZ_int]
  obtain ⟨r, hr⟩ : ∃ r : Int, r = x.tmod 3329 := ⟨_, rfl⟩
  have hr' : x.tmod 3329 = r := hr.symm
  have HR : Hid ((0 ≤ x → r = x % 3329) ∧ (x < 0 → r ≤ 0 ∧ (r = 0 → x % 3329 = 0) ∧ (r < 0 → r + 3329 = x % 3329)) ∧ -3329 < r ∧ r < 3329) := by
    show _ ∧ _
    refine ⟨fun h => by rw [hr, Int.tmod_eq_emod_of_nonneg h], fun h => ?_, ?_⟩
    · obtain ⟨y, rfl⟩ : ∃ y, x = -y := ⟨-x, by omega⟩
      rw [Int.neg_tmod, Int.tmod_eq_emod_of_nonneg (by omega)] at hr
      omega
    · by_cases h : 0 ≤ x
      · rw [Int.tmod_eq_emod_of_nonneg h] at hr; omega
      · obtain ⟨y, rfl⟩ : ∃ y, x = -y := ⟨-x, by omega⟩
        rw [Int.neg_tmod, Int.tmod_eq_emod_of_nonneg (by omega)] at hr
        omega
  have hb := HR.out.2.2
  clear hr
  by_cases h0 : r < 0
  · have hd : decide (r < 0) = true := decide_eq_true h0
    go_enter Tryd.func43, Tryd.ntmps43
    go_wp2
    go_ret
    refine ⟨retZ ?_, rfl⟩
    have := HR.out
    omega
  · have hd : decide (r < 0) = false := decide_eq_false h0
    go_enter Tryd.func43, Tryd.ntmps43
    go_wp2
    go_ret
    refine ⟨retZ ?_, rfl⟩
    have := HR.out
    omega

set_option maxRecDepth 100000 in
set_option maxHeartbeats 1000000 in
theorem twoZ_any (d : Nat) (D : Int) (hD : D = (d : Int)) (hd12 : d ≤ 12) (w : World) :
    Calls Tryd.prog 60 #[.int .i64 D] w fun e w' => e = .returned (.int .i64 ((2 ^ d : Nat) : Int)) ∧ w' = w := by
  subst hD
  obtain ⟨Z, hZ⟩ : ∃ Z : Nat, Z = 2 ^ d := ⟨_, rfl⟩
  rw [← hZ]
  have HZ : Hid _ := hZ
  clear hZ
  go_enter Tryd.func60, Tryd.ntmps60
  go_wp2
  go_loop [3, 4] (fun nv iv => ∃ i m : Nat, i ≤ d ∧ nv = .int .i64 (m : Int) ∧ Hid (m = 2 ^ i) ∧ m ≤ 4096 ∧ iv = .int .i64 (i : Int)) (fun _ iv => d - (intOf iv).toNat)
  case atStart => exact ⟨0, 1, by omega, rfl, rfl, by omega, rfl⟩
  case round =>
    obtain ⟨i, m, hi, rfl, HM, hm, rfl⟩ := hrel
    by_cases hlt : i < d
    · have hd : decide ((i : Int) < (d : Int)) = true := decide_eq_true (by omega)
      have hiI : (i : Int) < (d : Int) := by omega
      have HM2 : Hid (m * 2 = 2 ^ (i + 1)) := by show _ = _; rw [HM.out, Nat.pow_succ]
      have hm2 : m * 2 ≤ 4096 := by
        rw [HM2.out]
        exact Nat.le_trans (Nat.pow_le_pow_right (by decide) (show i + 1 ≤ 12 by omega)) (by decide)
      go_wp2
      go_round
      case rel => exact ⟨i + 1, m * 2, by omega, by go_num, HM2, hm2, by go_num⟩
      case measure => simp [intOf] <;> omega
    · have hie : i = d := by omega
      have hd : decide ((i : Int) < (d : Int)) = false := decide_eq_false (by omega)
      have hiI : (d : Int) ≤ (i : Int) := by omega
      have HF : Hid (m = 2 ^ d) := by rw [← hie]; exact HM
      clear hie HM
      go_wp2
      go_ret
      exact ⟨retZ (by rw [show m = Z from HF.out.trans HZ.out.symm]), rfl⟩

end Go.Proofs.YtlcnepnappfjeaaDoor

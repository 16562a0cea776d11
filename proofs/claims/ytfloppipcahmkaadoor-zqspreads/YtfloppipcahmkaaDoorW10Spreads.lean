/- What the law ZqSpreads answers at every input: the walk. -/
import Derived.Test.YtfloppipcahmkaaDoorZ10f
namespace Go.Proofs.YtfloppipcahmkaaDoor
open Go.ChangeShapes Go.WideShapes Go.ChangeAt Go.RowKit
set_option linter.unusedSimpArgs false
set_option linter.unusedVariables false

set_option maxRecDepth 100000 in
set_option maxHeartbeats 2000000 in
theorem spreads_walk (d y : Int) (wd : (Lit.int .i64 d).wf = true) (wy : (Lit.int .i64 y).wf = true) (w : World) (ht : PwT w) :
    Calls Tryd.prog 8 #[.int .i64 d, .int .i64 y] w fun e w' => e = .returned (.bool true) ∧ Below w.heap.size w w' := by
  have HY : Hid (In64 y) := wf_in64 wy
  clear wd wy
  by_cases h : 1 ≤ d ∧ d ≤ 11
  · obtain ⟨D, rfl⟩ : ∃ D : Nat, d = (D : Int) := ⟨d.toNat, by omega⟩
    have HD : Hid (1 ≤ D ∧ D ≤ 11) := ⟨by omega, by omega⟩
    have h1 : ¬ (D : Int) < 1 := by omega
    have h2 : ¬ 11 < (D : Int) := by omega
    have d1 : decide ((D : Int) < 1) = false := decide_eq_false h1
    have d2 : decide (11 < (D : Int)) = false := decide_eq_false h2
    have hDb : D ≤ 11 := HD.out.2
    clear h
    have HA : Hid _ := and_low D (by omega) y HY.out
    have HC : Hid _ := cp_dc D HD.out.1 HD.out.2 y
    have hx := dcZ_lt D HD.out.1 HD.out.2 y
    obtain ⟨t1, t2⟩ := two_le (d := D) (by omega)
    obtain ⟨T, hT⟩ : ∃ T : Nat, T = 2 ^ D := ⟨_, rfl⟩
    rw [← hT] at HA t1 t2
    have e1 : (2 : Int) ^ D = (T : Int) := by rw [hT]; push_cast; rfl
    have e2 : ((T - 1 : Nat) : Int) = (T : Int) - 1 := by omega
    rw [e2] at HA
    have a1 := HA.out
    have e3 : IntKind.u64.wrap (D : Int) = (D : Int) := by rw [IntKind.wrap_u64]; omega
    clear hT e2
    go_enter Tryd.func8, Tryd.ntmps8
    go_wp2_with fail
    refine (awake_any _ ht).mono ?_
    rintro e w1 ⟨rfl, b1⟩
    have HW : Hid _ := b1
    clear b1 ht
    go_wp2_with fail
    refine (zdeco_any D _ y rfl HD.out.1 HD.out.2 HY.out _).mono ?_
    rintro e w2 ⟨rfl, b2⟩
    have HW2 : Hid _ := stepB HW.out b2
    clear b2
    have HR : Hid (∀ w : World, Calls Tryd.prog 23 #[.int .i64 (D : Int), .int .i64 y] w fun e w' => e = .returned (.int .i64 ((dcZ D y : Nat) : Int)) ∧ w' = w) := fun w => decoZ_any D _ y rfl HD.out.1 HD.out.2 HY.out w
    generalize dcZ D y = x at hx HC HR ⊢
    have hx0 : (x : Int) < 3329 := by omega
    go_wp2_with fail
    refine (HR.out _).mono ?_
    rintro e w3 ⟨rfl, rfl⟩
    go_wp2_with fail
    refine (zcomp_any D _ (x : Int) rfl HD.out.1 HD.out.2 ⟨by omega, by omega⟩ _).mono ?_
    rintro e w4 ⟨rfl, rfl⟩
    rw [HC.out]
    go_wp2
    go_ret
    exact ⟨rfl, HW2.out⟩
  · have HD : Hid (d < 1 ∨ 11 < d) := by show _ ∨ _; omega
    by_cases h1 : d < 1
    · have d1 : decide (d < 1) = true := decide_eq_true h1
      clear h
      go_enter Tryd.func8, Tryd.ntmps8
      go_wp2_with fail
      refine (awake_any _ ht).mono ?_
      rintro e w1 ⟨rfl, b1⟩
      have HW : Hid _ := b1
      clear b1 ht
      go_wp2_with fail
      refine (zdeco_out d y HD.out _).mono ?_
      rintro e w2 ⟨rfl, rfl⟩
      go_wp2
      go_ret
      exact ⟨rfl, HW.out⟩
    · have d1 : decide (d < 1) = false := decide_eq_false h1
      have h2 : 11 < d := by omega
      have d2 : decide (11 < d) = true := decide_eq_true h2
      clear h
      go_enter Tryd.func8, Tryd.ntmps8
      go_wp2_with fail
      refine (awake_any _ ht).mono ?_
      rintro e w1 ⟨rfl, b1⟩
      have HW : Hid _ := b1
      clear b1 ht
      go_wp2_with fail
      refine (zdeco_out d y HD.out _).mono ?_
      rintro e w2 ⟨rfl, rfl⟩
      go_wp2
      go_ret
      exact ⟨rfl, HW.out⟩
end Go.Proofs.YtfloppipcahmkaaDoor

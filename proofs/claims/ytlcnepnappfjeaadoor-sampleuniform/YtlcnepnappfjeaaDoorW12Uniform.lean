/- The walk of the law SampleUniform. -/
import Derived.Test.YtlcnepnappfjeaaDoorL12h
import Derived.Test.YtlcnepnappfjeaaDoorRef12g
namespace Go.Proofs.YtlcnepnappfjeaaDoor
open Go.ChangeShapes Go.WideShapes Go.ChangeAt Go.RowKit
set_option linter.unusedSimpArgs false
set_option linter.unusedVariables false

set_option maxRecDepth 100000 in
set_option maxHeartbeats 4000000 in
theorem uniform_walk (v : Value) (l : List UInt8) (w : World) (hr : Rd w v l) (hT : Tabs w) :
    Calls Tryd.prog 3 #[v] w fun e w' => e = .returned (.bool true) ∧ Below w.heap.size w w' := by
  obtain ⟨av, cv, rfl, -, -, -, -⟩ := id hr
  go_enter Tryd.func3, Tryd.ntmps3
  go_wp2_with fail
  refine (awake_any _ hT).mono ?_
  rintro e w1 ⟨rfl, hbw⟩
  replace hr := hr.kept hbw
  replace hT := hT.kept hbw
  by_cases h : l.length ≤ 1000
  · have d1 : decide ((1000 : Int) < (l.length : Int)) = false := decide_eq_false (by omega)
    have d2 : (l.length : Int) ≤ 1000 := by omega
    have H : Hid (l.length ≤ 1000000) := by show _ ≤ _; omega
    clear h
    go_wp2_with fail
    refine (suniform_any _ l _ hr hT).mono ?_
    rintro e w2 ⟨he, b2⟩
    replace hr := hr.kept b2
    replace hbw := stepB hbw b2
    obtain ⟨U, hU⟩ : ∃ U : Nat → FZ, U = unF (smF (abF 168 31 l) 168) := ⟨_, rfl⟩
    rw [← hU] at he
    subst he
    have HU : Hid _ := hU
    clear hU b2
    go_wp2_with fail
    refine (uniform12_any _ l H.out _ hr).mono ?_
    rintro e w3 ⟨he, b3⟩
    rw [← HU.out] at he
    subst he
    replace hbw := stepB hbw b3
    have hq := eq_poS (f := U) (g := U) (fun _ _ => rfl)
    go_wp2
    go_ret
    exact ⟨rfl, hbw⟩
  · have d1 : decide ((1000 : Int) < (l.length : Int)) = true := decide_eq_true (by omega)
    have d2 : (1000 : Int) < (l.length : Int) := by omega
    clear h
    go_wp2
    go_ret
    exact ⟨rfl, hbw⟩
end Go.Proofs.YtlcnepnappfjeaaDoor

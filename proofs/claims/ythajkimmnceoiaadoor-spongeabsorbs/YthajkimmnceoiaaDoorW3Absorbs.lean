/- What the law SpongeAbsorbs answers at every input: the walk. -/
import Derived.Test.YthajkimmnceoiaaDoorS03h
import Derived.Test.YthajkimmnceoiaaDoorRef02s
namespace Go.Proofs.YthajkimmnceoiaaDoor
open Go.ChangeShapes Go.WideShapes Go.ChangeAt Go.RowKit
set_option linter.unusedSimpArgs false
set_option linter.unusedVariables false

set_option maxHeartbeats 1000000 in
theorem absorbs_walk (R S : Int) (s : UInt8) (hS : S = (s.toNat : Int)) (vb : Value) (l : List UInt8) (w : World) (hr : Rd w vb l) (ht : Tabs w) :
    Calls Tryd.prog 3 #[.int .i64 R, .int .u8 S, vb] w fun e w' => e = .returned (.bool true) ∧ Below w.heap.size w w' := by
  subst hS
  obtain ⟨a, cap, rfl, h2, h3, h4, -⟩ := id hr
  unfold maxLen at h3
  by_cases hlen : l.length ≤ 2000
  · have d1 : decide ((2000 : Int) < (l.length : Int)) = false := decide_eq_false (by omega)
    have g1 : (l.length : Int) ≤ 2000 := by omega
    go_enter Tryd.func3, Tryd.ntmps3
    go_wp2_with fail
    refine (awake_any _ ht).mono ?_
    rintro e w1 ⟨rfl, hB1⟩
    have hr1 := hr.kept hB1
    have ht1 := ht.kept hB1
    go_wp2_with fail
    refine (absorb_any R _ s rfl _ l _ hr1 ht1).mono ?_
    rintro e w2 ⟨rfl, hB2⟩
    have hr2 := hr1.kept hB2
    go_wp2_with fail
    refine (absorbR_any R _ s rfl _ l (by omega) _ hr2).mono ?_
    rintro e w3 ⟨v3, rfl, hR3, hB3⟩
    go_wp2_with fail
    refine (same_any _ (abF R s l) (abF R s l) rfl _ _ hR3).mono ?_
    rintro e w4 ⟨rfl, hB4⟩
    rw [decide_eq_true (rfl : stL (abF R s l) = stL (abF R s l))]
    have hb := stepB (stepB (stepB hB1 hB2) hB3) hB4
    go_wp2
    go_ret
    exact ⟨rfl, hb⟩
  · have d1 : decide ((2000 : Int) < (l.length : Int)) = true := decide_eq_true (by omega)
    have g1 : (2000 : Int) < l.length := by omega
    go_enter Tryd.func3, Tryd.ntmps3
    go_wp2_with fail
    refine (awake_any _ ht).mono ?_
    rintro e w1 ⟨rfl, hB1⟩
    go_wp2
    go_ret
    exact ⟨rfl, hB1⟩
end Go.Proofs.YthajkimmnceoiaaDoor

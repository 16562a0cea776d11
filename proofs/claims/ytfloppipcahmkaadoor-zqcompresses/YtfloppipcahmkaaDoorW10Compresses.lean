/- What the law ZqCompresses answers at every input: the walk. -/
import Derived.Test.YtfloppipcahmkaaDoorZ10f
namespace Go.Proofs.YtfloppipcahmkaaDoor
open Go.ChangeShapes Go.WideShapes Go.ChangeAt Go.RowKit
set_option linter.unusedSimpArgs false
set_option linter.unusedVariables false

set_option maxRecDepth 100000 in
set_option maxHeartbeats 2000000 in
theorem compresses_walk (d x : Int) (wd : (Lit.int .i64 d).wf = true) (wx : (Lit.int .i64 x).wf = true) (w : World) (ht : PwT w) :
    Calls Tryd.prog 7 #[.int .i64 d, .int .i64 x] w fun e w' => e = .returned (.bool true) ∧ Below w.heap.size w w' := by
  have HX : Hid (In64 x) := wf_in64 wx
  clear wd wx
  by_cases h : 1 ≤ d ∧ d ≤ 11
  · obtain ⟨D, rfl⟩ : ∃ D : Nat, d = (D : Int) := ⟨d.toNat, by omega⟩
    have HD : Hid (1 ≤ D ∧ D ≤ 11) := ⟨by omega, by omega⟩
    clear h
    go_enter Tryd.func7, Tryd.ntmps7
    go_wp2_with fail
    refine (awake_any _ ht).mono ?_
    rintro e w1 ⟨rfl, b1⟩
    have HW : Hid _ := b1
    clear b1 ht
    go_wp2_with fail
    refine (zcomp_any D _ x rfl HD.out.1 HD.out.2 HX.out _).mono ?_
    rintro e w2 ⟨rfl, rfl⟩
    go_wp2_with fail
    refine (compZ_any D _ x rfl HD.out.1 HD.out.2 HX.out _).mono ?_
    rintro e w3 ⟨rfl, rfl⟩
    go_wp2
    go_ret
    exact ⟨rfl, HW.out⟩
  · have HD : Hid (d < 1 ∨ 11 < d) := by show _ ∨ _; omega
    clear h
    go_enter Tryd.func7, Tryd.ntmps7
    go_wp2_with fail
    refine (awake_any _ ht).mono ?_
    rintro e w1 ⟨rfl, b1⟩
    have HW : Hid _ := b1
    clear b1 ht
    go_wp2_with fail
    refine (zcomp_out d x HD.out _).mono ?_
    rintro e w2 ⟨rfl, rfl⟩
    go_wp2_with fail
    refine (compZ_out d x HD.out _).mono ?_
    rintro e w3 ⟨rfl, rfl⟩
    go_wp2
    go_ret
    exact ⟨rfl, HW.out⟩
end Go.Proofs.YtfloppipcahmkaaDoor

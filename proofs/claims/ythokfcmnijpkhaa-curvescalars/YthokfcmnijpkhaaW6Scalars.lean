/- What the law CurveScalars answers at every input: the walk. -/
import Derived.Test.YthokfcmnijpkhaaV06h
import Derived.Test.YthokfcmnijpkhaaRef06c
namespace Go.Proofs.Ythokfcmnijpkhaa
open Go.ChangeShapes Go.WideShapes Go.ChangeAt Go.RowKit
set_option linter.unusedSimpArgs false
set_option linter.unusedVariables false

set_option maxRecDepth 100000 in
set_option maxHeartbeats 4000000 in
theorem scalars_walk (vk vu : Value) (k u : List UInt8) (w : World) (hk : Rd w vk k) (hu : Rd w vu u) :
    Calls Try.prog 3 #[vk, vu] w fun e w' => e = .returned (.bool true) ∧ Below w.heap.size w w' := by
  go_enter Try.func3, Try.ntmps3
  go_wp2_with fail
  refine (awake_any _).mono ?_
  rintro e wa ⟨rfl, bn⟩
  replace hk := hk.kept bn
  replace hu := hu.kept bn
  have hbw := bn
  clear bn
  have hcv0 := conv_any hk
  go_wp2_with fail
  clear hcv0
  by_cases h : k.length = 32 ∧ u.length = 32
  · refine (scalar_any _ _ k u _ hk hu h.1 h.2).mono ?_
    rintro e w1 ⟨v1, rfl, hN1⟩
    replace hk := hk.kept hN1.2
    replace hu := hu.kept hN1.2
    replace hbw := stepB hbw hN1.2
    have h1 := hN1.rd
    clear hN1
    go_wp2_with fail
    refine (scalarR_any _ _ k u _ hk hu h.1 h.2).mono ?_
    rintro e w2 ⟨v2, rfl, hN2⟩
    replace hk := hk.kept hN2.2
    replace h1 := h1.kept hN2.2
    replace hbw := stepB hbw hN2.2
    have h2 := hN2.rd
    clear hN2 hu
    generalize enL (scN k u) = L at h1 h2
    have hcv0 := conv_any hk
    have hcv1 := conv_any h1
    have hcv2 := conv_any h2
    clear h1 h2 hk h
    go_wp2
    go_ret
    exact ⟨rfl, hbw⟩
  · refine (scalar_arg _ _ k u _ hk hu h).mono ?_
    rintro e w1 ⟨rfl, bn⟩
    replace hk := hk.kept bn
    replace hu := hu.kept bn
    replace hbw := stepB hbw bn
    clear bn
    go_wp2_with fail
    refine (scalarR_arg _ _ k u _ hk hu h).mono ?_
    rintro e w2 ⟨rfl, rfl⟩
    have hcv0 := conv_any hk
    have hcv1 := conv_any (Rd.nil w2)
    clear hk hu h
    go_wp2
    go_ret
    exact ⟨rfl, hbw⟩
end Go.Proofs.Ythokfcmnijpkhaa

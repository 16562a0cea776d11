/- What all rounds of the document's own answer: a contract of the reference of layer 2. -/
import Derived.Test.YtiffdfpkfcielabDoorRef02e
namespace Go.Proofs.YtiffdfpkfcielabDoor
open Go.ChangeShapes Go.WideShapes Go.ChangeAt Go.RowKit
set_option linter.unusedSimpArgs false
set_option linter.unusedVariables false

set_option maxHeartbeats 1000000 in
theorem all_any (va : Value) (f : Nat → Nat) (hf : ∀ i, f i < 18446744073709551616) (w : World) (hr : RdI .u64 w va (stL f)) :
    Calls Tryd.prog 10 #[va] w fun e w' => ∃ v, e = .returned v ∧ RdI .u64 w' v (stL (rdsF f 24)) ∧ Below w.heap.size w w' := by
  have Hf : Hid (∀ i, f i < 18446744073709551616) := hf
  clear hf
  go_enter Tryd.func10, Tryd.ntmps10
  go_wp2_with fail
  go_loopw [0, 3] (fun v j wr => ∃ J : Nat, J ≤ 24 ∧ j = .int .i64 J ∧ RdI .u64 wr v (stL (rdsF f J)) ∧ Below w.heap.size w wr) (fun _ j _ => 24 - (intOf j).toNat)
  case atStart => exact ⟨0, by omega, rfl, hr, Below.refl _ _⟩
  case round =>
    obtain ⟨J, hJ, rfl, hR, hB⟩ := hrel
    clear hr
    by_cases hlt : J < 24
    · have HE : Hid (rdI (rdsF f J) (J : Int) = rdsF f (J + 1)) := by
        show rdI _ _ = _
        unfold rdI
        rw [if_pos (by omega)]
        rfl
      go_wp2_with fail
      refine (round_any _ _ (rdsF_lt f Hf.out J) _ _ hR).mono ?_
      rintro e w2 ⟨v2, rfl, hR2, hB2⟩
      rw [HE.out] at hR2
      have hB3 := stepB hB hB2
      clear hB hB2 hR HE
      go_wp2
      go_roundw
      case rel => exact ⟨J + 1, by omega, by go_num, hR2, hB3⟩
      case measure => simp [intOf]; omega
    · have hJe : J = 24 := by omega
      subst hJe
      go_wp2
      go_ret
      exact ⟨_, rfl, hR, hB⟩
end Go.Proofs.YtiffdfpkfcielabDoor

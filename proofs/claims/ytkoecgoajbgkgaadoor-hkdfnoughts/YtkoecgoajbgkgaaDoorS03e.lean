/- What the sums of package sponge answer, and what a thing that gives bytes without end is and gives. -/
import Derived.Test.YtkoecgoajbgkgaaDoorS03d
import Derived.Test.YtkoecgoajbgkgaaDoorRef03d
namespace Go.Proofs.YtkoecgoajbgkgaaDoor
open Go.ChangeShapes Go.WideShapes Go.ChangeAt Go.RowKit
set_option linter.unusedSimpArgs false
set_option linter.unusedVariables false

theorem otL_first (f : Nat → Nat) (r n : Nat) (h : n ≤ r) : otL f r n = bsP f n := by
  unfold otL bsP
  refine List.map_congr_left fun k hk => ?_
  have := List.mem_range.1 hk
  unfold smF
  rw [Nat.div_eq_of_lt (by omega), Nat.mod_eq_of_lt (by omega)]
  rfl

set_option maxHeartbeats 400000 in
theorem sum256_any (vb : Value) (l : List UInt8) (w : World) (hr : Rd w vb l) (ht : Tabs w) :
    Calls Tryd.prog 14 #[vb] w fun e w' => ∃ v, e = .returned v ∧ New 5 w v (otL (abF 136 6 l) 136 32) w' := by
  go_enter Tryd.func14, Tryd.ntmps14
  go_wp2_with fail
  refine (absorb_any 136 6 6 rfl _ l _ hr ht).mono ?_
  rintro e w2 ⟨rfl, hB⟩
  go_wp2_with fail
  refine (first_any _ (abF 136 6 l) (abF_lt _ _ _) rfl 32 (by omega) _).mono ?_
  rintro e w3 ⟨v3, rfl, hN3⟩
  go_wp2
  go_ret
  rw [otL_first _ _ _ (by omega)]
  exact ⟨_, rfl, hN3.from hB⟩

end Go.Proofs.YtkoecgoajbgkgaaDoor

/- What the document's own Iota answers for every number of a round. -/
import Derived.Test.YtiffdfpkfcielaaDoorRef02e
import Derived.Test.YtiffdfpkfcielaaDoorK02b
namespace Go.Proofs.YtiffdfpkfcielaaDoor
open Go.ChangeShapes Go.WideShapes Go.ChangeAt Go.RowKit
set_option linter.unusedSimpArgs false
set_option linter.unusedVariables false

theorem iotaR_any (va : Value) (f : Nat → Nat) (hf : ∀ i, f i < 18446744073709551616) (i : Int) (w : World) (hr : RdI .u64 w va (stL f)) :
    Calls Tryd.prog 20 #[va, .int .i64 i] w fun e w' => ∃ v, e = .returned v ∧ NewI .u64 22 w v (stL (ioI f i)) w' := by
  by_cases h : 0 ≤ i ∧ i ≤ 23
  · obtain ⟨n, rfl⟩ : ∃ n : Nat, i = n := ⟨i.toNat, by omega⟩
    have e : stL (ioI f (n : Int)) = stL (ioF f n) := stL_congr fun k hk => by
      unfold ioI
      rw [if_pos h, Int.toNat_natCast]
      unfold ioK ioF
      by_cases hk0 : k = 0
      · rw [if_pos hk0, if_pos hk0, ioL_xor _ _ (hf 0) (by omega)]
      · rw [if_neg hk0, if_neg hk0]
    rw [e]
    exact iota_in va f hf n (by omega) w hr
  · have e : ioI f i = f := by unfold ioI; rw [if_neg h]
    rw [e]
    exact iota_out va f i (by omega) w hr
end Go.Proofs.YtiffdfpkfcielaaDoor

/- What the document's own bits of bytes, and rounded polynomials, are: contracts of the reference of layer 12. -/
import Derived.Test.YtlcnepnappfjeabDoorNum
import Derived.Test.YtlcnepnappfjeabDoorRef11b
import Derived.Test.YtlcnepnappfjeabDoorBase
namespace Go.Proofs.YtlcnepnappfjeabDoor
open Go.ChangeShapes Go.WideShapes Go.ChangeAt Go.RowKit
set_option linter.unusedSimpArgs false
set_option linter.unusedVariables false

theorem infoI12 : (Tryd.prog.info? 3).map (fun i => (i.zero, i.size, i.bytes)) = some (some (.int .i64 0), 1, 8) := by kernel_rfl
theorem litI1 {k : IntKind} {w : World} {e : TypeId} (x : Int) : RdI k (w.alloc (.cells #[.int k x] e)) (.slice (some ⟨w.heap.size, 0, none⟩) 1 1) [x] :=
  (NewI.lit (k := k) (e := e) (w := w) [x] rfl rfl rfl (by simp [maxLen])).rd
/-- A number's next bit, and what is left of it. -/
theorem half_fact (x j : Nat) (hx : x < 9223372036854775807) : ∃ y z q : Nat, y = x / 2 ^ j ∧ z = x / 2 ^ (j + 1) ∧ q = x / 2 ^ j % 2 ∧ y < 9223372036854775807 ∧ ((y : Nat) : Int).tmod 2 = (q : Int) ∧ IntKind.i64.wrap (q : Int) = (q : Int) ∧ ((y : Nat) : Int).tdiv 2 = (z : Int) ∧ IntKind.i64.wrap (z : Int) = (z : Int) ∧ (y : Int) / 2 = (z : Int) := by
  have h1 : x / 2 ^ j ≤ x := Nat.div_le_self _ _
  have h2 : x / 2 ^ (j + 1) = x / 2 ^ j / 2 := by rw [Nat.pow_succ, Nat.div_div_eq_div_mul]
  rw [h2]
  generalize x / 2 ^ j = y at h1
  refine ⟨_, _, _, rfl, rfl, rfl, by omega, ?_, ?_, ?_, ?_, by omega⟩
  · rw [Int.tmod_eq_emod_of_nonneg (by omega)]; omega
  · exact IntWalk.i64_in _ (by omega)
  · rw [Int.tdiv_eq_ediv_of_nonneg (by omega)]; omega
  · exact IntWalk.i64_in _ (by omega)

end Go.Proofs.YtlcnepnappfjeabDoor

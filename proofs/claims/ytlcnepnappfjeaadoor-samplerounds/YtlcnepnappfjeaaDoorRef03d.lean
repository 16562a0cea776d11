/- What the document's own Absorb answers at every rate: a contract of the reference of layer 3, fourth part. -/
import Derived.Test.YtlcnepnappfjeaaDoorRef03c
namespace Go.Proofs.YtlcnepnappfjeaaDoor
open Go.ChangeShapes Go.WideShapes Go.ChangeAt Go.RowKit
set_option linter.unusedSimpArgs false
set_option linter.unusedVariables false

theorem absorbR_any (R S : Int) (s : UInt8) (hS : S = (s.toNat : Int)) (vb : Value) (l : List UInt8) (hl : l.length ≤ 1000000) (w : World) (hr : Rd w vb l) :
    Calls Tryd.prog 28 #[.int .i64 R, .int .u8 S, vb] w fun e w' => ∃ v, e = .returned v ∧ RdI .u64 w' v (stL (abF R s l)) ∧ Below w.heap.size w w' := by
  subst hS
  by_cases h : 1 ≤ R ∧ R ≤ 200
  · obtain ⟨r, rfl⟩ : ∃ r : Nat, R = r := ⟨R.toNat, by omega⟩
    have e : abF (r : Int) s l = abN r (padL r s l) (blN r l) := by unfold abF; rw [if_pos h, Int.toNat_natCast]
    rw [e]
    exact absorb_in r (by omega) (by omega) s vb l hl w hr
  · have e : abF R s l = fun _ => 0 := by unfold abF; rw [if_neg h]
    rw [e]
    exact absorb_out R _ (by omega) vb w
end Go.Proofs.YtlcnepnappfjeaaDoor

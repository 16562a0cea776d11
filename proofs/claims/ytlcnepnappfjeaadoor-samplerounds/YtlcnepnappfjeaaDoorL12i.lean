/- What package sample answers, of any numbers, refused or not: contracts, eighth part. -/
import Derived.Test.YtlcnepnappfjeaaDoorL12g
import Derived.Test.YtlcnepnappfjeaaDoorL12e
import Derived.Test.YtlcnepnappfjeaaDoorNum
namespace Go.Proofs.YtlcnepnappfjeaaDoor
open Go.ChangeShapes Go.WideShapes Go.ChangeAt Go.RowKit
set_option linter.unusedSimpArgs false
set_option linter.unusedVariables false

theorem snoise_all (E : Int) (v : Value) (b : List UInt8) (w : World) (hb : Rd w v b) :
    Calls Tryd.prog 12 #[.int .i64 E, v] w fun e w' => e = .returned (.tuple #[poV (nsA E b).1, .int .i64 (nsA E b).2]) ∧ Below w.heap.size w w' := by
  unfold nsA
  by_cases h : 1 ≤ E ∧ E ≤ 3 ∧ (b.length : Int) = 64 * E
  · rw [if_pos h]
    exact snoise_any E.toNat E (by omega) (by omega) (by omega) v b w hb (by omega)
  · rw [if_neg h]
    exact snoise_arg E v b w hb h

theorem sunpack_all (D : Int) (v : Value) (b : List UInt8) (w : World) (hb : Rd w v b) :
    Calls Tryd.prog 16 #[.int .i64 D, v] w fun e w' => e = .returned (.tuple #[poV (upA D b).1, .int .i64 (upA D b).2]) ∧ Below w.heap.size w w' := by
  unfold upA
  by_cases h : 1 ≤ D ∧ D ≤ 12 ∧ (b.length : Int) = 32 * D
  · rw [if_pos h]
    exact sunpack_any D.toNat D (by omega) (by omega) (by omega) v b w hb (by omega)
  · rw [if_neg h]
    exact sunpack_arg D v b w hb h

theorem sprf_all (E : Int) (v : Value) (l : List UInt8) (n : UInt8) (N : Int) (hN : N = (n.toNat : Int)) (hl : l.length ≤ 900000) (w : World) (hr : Rd w v l) (hT : Tabs w) :
    Calls Tryd.prog 14 #[.int .i64 E, v, .int .u8 N] w fun e w' => e = .returned (.tuple #[poV (prA E l n).1, .int .i64 (prA E l n).2]) ∧ Below w.heap.size w w' := by
  unfold prA
  by_cases h : 1 ≤ E ∧ E ≤ 3
  · rw [if_pos h]
    exact sprf_any E.toNat E (by omega) (by omega) (by omega) v l n N hN hl w hr hT
  · rw [if_neg h]
    exact sprf_arg E v N w h

theorem spack_all (D : Int) (A : Array Value) (F : Nat → Int) (hF : Po F) (hA : A = ((gI F).map (Value.int .i64)).toArray) (w : World) :
    Calls Tryd.prog 18 #[.int .i64 D, .agg A] w fun e w' => ∃ v, e = .returned v ∧ Rd w' v (pkA D F) ∧ Below w.heap.size w w' := by
  unfold pkA
  by_cases h : 1 ≤ D ∧ D ≤ 12
  · rw [if_pos h]
    refine (spack_any D.toNat D (by omega) (by omega) (by omega) A F hF hA w).mono ?_
    rintro e w' ⟨v, h1, h2⟩
    exact ⟨v, h1, h2.rd, h2.2⟩
  · rw [if_neg h]
    refine (spack_arg D A F hA w h).mono ?_
    rintro e w' ⟨h1, h2⟩
    exact ⟨_, h1, Rd.nil w', h2⟩
end Go.Proofs.YtlcnepnappfjeaaDoor

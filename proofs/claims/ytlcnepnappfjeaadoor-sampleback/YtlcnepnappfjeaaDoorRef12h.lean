/- What the document's own layer 12 answers, of any numbers, refused or not: contracts of the reference, eighth part. -/
import Derived.Test.YtlcnepnappfjeaaDoorRef12e
import Derived.Test.YtlcnepnappfjeaaDoorRef12f
import Derived.Test.YtlcnepnappfjeaaDoorNum
namespace Go.Proofs.YtlcnepnappfjeaaDoor
open Go.ChangeShapes Go.WideShapes Go.ChangeAt Go.RowKit
set_option linter.unusedSimpArgs false
set_option linter.unusedVariables false

theorem noise12_all (E : Int) (v : Value) (b : List UInt8) (w : World) (hb : Rd w v b) :
    Calls Tryd.prog 13 #[.int .i64 E, v] w fun e w' => e = .returned (.tuple #[poV (nsA E b).1, .int .i64 (nsA E b).2]) ∧ Below w.heap.size w w' := by
  unfold nsA
  by_cases h : 1 ≤ E ∧ E ≤ 3 ∧ (b.length : Int) = 64 * E
  · rw [if_pos h]
    exact noise12_any E.toNat E (by omega) (by omega) (by omega) v b w hb (by omega)
  · rw [if_neg h]
    exact noise12_arg E v b w hb h

theorem unpack12_all (D : Int) (v : Value) (b : List UInt8) (w : World) (hb : Rd w v b) :
    Calls Tryd.prog 17 #[.int .i64 D, v] w fun e w' => e = .returned (.tuple #[poV (upA D b).1, .int .i64 (upA D b).2]) ∧ Below w.heap.size w w' := by
  unfold upA
  by_cases h : 1 ≤ D ∧ D ≤ 12 ∧ (b.length : Int) = 32 * D
  · rw [if_pos h]
    exact unpack12_any D.toNat D (by omega) (by omega) (by omega) v b w hb (by omega)
  · rw [if_neg h]
    exact unpack12_arg D v b w hb h

theorem prf12_all (E : Int) (v : Value) (l : List UInt8) (n : UInt8) (N : Int) (hN : N = (n.toNat : Int)) (hl : l.length ≤ 900000) (w : World) (hr : Rd w v l) :
    Calls Tryd.prog 15 #[.int .i64 E, v, .int .u8 N] w fun e w' => e = .returned (.tuple #[poV (prA E l n).1, .int .i64 (prA E l n).2]) ∧ Below w.heap.size w w' := by
  unfold prA
  by_cases h : 1 ≤ E ∧ E ≤ 3
  · rw [if_pos h]
    exact prf12_any E.toNat E (by omega) (by omega) (by omega) v l n N hN hl w hr
  · rw [if_neg h]
    exact prf12_arg E v N w h

theorem pack12_all (D : Int) (A : Array Value) (F : Nat → Int) (hF : Po F) (hA : A = ((gI F).map (Value.int .i64)).toArray) (w : World) :
    Calls Tryd.prog 19 #[.int .i64 D, .agg A] w fun e w' => ∃ v, e = .returned v ∧ Rd w' v (pkA D F) ∧ Below w.heap.size w w' := by
  unfold pkA
  by_cases h : 1 ≤ D ∧ D ≤ 12
  · rw [if_pos h]
    refine (pack12_any D.toNat D (by omega) (by omega) (by omega) A F hF hA w).mono ?_
    rintro e w' ⟨v, h1, h2⟩
    exact ⟨v, h1, h2.rd, h2.2⟩
  · rw [if_neg h]
    refine (pack12_arg D A F hA w h).mono ?_
    rintro e w' ⟨h1, h2⟩
    exact ⟨_, h1, Rd.nil w', h2⟩
end Go.Proofs.YtlcnepnappfjeaaDoor

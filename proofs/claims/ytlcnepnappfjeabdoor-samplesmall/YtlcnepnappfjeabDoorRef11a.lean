/- What the document's own rests, sums and differences of polynomials are, and the factors' roots: contracts of the reference of layer 11. -/
import Derived.Test.YtlcnepnappfjeabDoorNum
import Derived.Test.YtlcnepnappfjeabDoorRef10b
import Derived.Test.YtlcnepnappfjeabDoorBase
namespace Go.Proofs.YtlcnepnappfjeabDoor
open Go.ChangeShapes Go.WideShapes Go.ChangeAt Go.RowKit
set_option linter.unusedSimpArgs false
set_option linter.unusedVariables false

/-- A polynomial's rests as a value. -/
abbrev poV (f : Nat → FZ) : Value := .agg ((gI (fzF f)).map (Value.int .i64)).toArray
theorem poInfo (F : Nat → Int) : (Tryd.prog.info? 24).map (·.size) = some (gI F).length := by rw [gI_length]; kernel_rfl
theorem poMax (F : Nat → Int) : (gI F).length ≤ maxLen := by rw [gI_length]; decide
theorem alloc_po (w : World) : (Instr.alloc 24 true (.tuple #[])).run Tryd.prog w = .ok (.pointer (some ⟨w.heap.size, 0, none⟩)) (w.alloc (.cells ((gI fun _ => 0).map (Value.int .i64)).toArray 24)) := by kernel_rfl
/-- Numbers of 64 bits, 256 of them. -/
structure Po (F : Nat → Int) : Prop where
  in64 : ∀ k, In64 (F k)
theorem Po.fz (f : Nat → FZ) : Po (fzF f) := ⟨fun k => by have := fzF_lt f k; unfold In64; omega⟩
/-- What numbers stand for, place by place. -/
def rF (F : Nat → Int) (k : Nat) : FZ := nz (rsZ (F k))
theorem rF_val (F : Nat → Int) (k : Nat) : (((rF F k).val : Nat) : Int) = ((rsZ (F k) : Nat) : Int) := by
  have := rsZ_lt (F k)
  unfold rF
  rw [nz_val, Nat.mod_eq_of_lt this]
theorem rF_fz (f : Nat → FZ) : rF (fzF f) = f := by
  funext k
  unfold rF fzF
  rw [rsZ_nat]
  refine Fin.ext ?_
  rw [nz_val, Nat.mod_mod]
  exact Nat.mod_eq_of_lt (f k).isLt
theorem i64_nat (n : Nat) (h : n ≤ 9223372036854775807) : IntKind.i64.wrap (n : Int) = (n : Int) := IntWalk.i64_in _ (by omega)
theorem tmod_nat (n m : Nat) : ((n : Nat) : Int).tmod (m : Int) = ((n % m : Nat) : Int) := by
  rw [Int.tmod_eq_emod_of_nonneg (by omega)]
  omega

end Go.Proofs.YtlcnepnappfjeabDoor

/- What the document's own sums and differences of polynomials are, and the factors' roots: contracts of the reference of layer 11, second part. -/
import Derived.Test.YtlcnepnappfjeaaDoorRef11a
namespace Go.Proofs.YtlcnepnappfjeaaDoor
open Go.ChangeShapes Go.WideShapes Go.ChangeAt Go.RowKit
set_option linter.unusedSimpArgs false
set_option linter.unusedVariables false

theorem cellB11 {w W : World} {p : Addr} {v : Value} (h : w.cell? p = some v) (hb : Below w.heap.size w W) : W.cell? p = some v := by
  rw [hb.cell (World.block_lt_of_cell? _ _ h)]
  exact h
theorem Wrote.ofdrew11 {g : Nat} {w w' : World} (h : Wrote g w.drew w') : Wrote g w w' := ⟨h.size, h.other, fun B a hB hb => h.below B a hB hb.drew⟩
/-- A number is stored into a row. -/
theorem wp_store_int {e : TypeId} {g cap j : Nat} {l : List Int} {w : World} {op : Oper} {a : Act} {K : Act → World → Prop} {Q : Exit → Act → World → Prop} (x y : Operand) (ho : op.op = .store 3 x y) (hx : a.eval x = .pointer (some ⟨g, j, none⟩)) (X : Int) (hy : a.eval y = .int .i64 X)
    (hr : RowAt .i64 e g cap l w) (hj : j < l.length)
    (h : ∀ w', RowAt .i64 e g cap (l.set j X) w' → Wrote g w w' → K (a.put op.dst undef) w') : op.wp Tryd.prog a w K Q := by
  have hc := hr.cell hj
  have hf := hr.free j
  have h2 := h _ (hr.set j X) (Wrote.set g j w _)
  unfold Oper.wp execOp
  simp only [ho, hx, hy]
  go_simp
  exact h2
theorem wpList_store_int {e : TypeId} {g cap j : Nat} {l : List Int} {w : World} {ops : Array Oper} {rest : List Oper} {op : Oper} {a : Act} {Q : Exit → Act → World → Prop} (hgd : op.guard = none) (x y : Operand) (ho : op.op = .store 3 x y) (hx : a.eval x = .pointer (some ⟨g, j, none⟩)) (X : Int) (hy : a.eval y = .int .i64 X)
    (hr : RowAt .i64 e g cap l w) (hj : j < l.length)
    (h : ∀ w', RowAt .i64 e g cap (l.set j X) w' → Wrote g w w' → wpList Tryd.prog ops Q rest (a.put op.dst undef) w') : wpList Tryd.prog ops Q (op :: rest) a w :=
  wpList_plain hgd fun _ hK => wp_store_int x y ho hx X hy hr hj fun w' h1 h2 => hK _ _ (h w' h1 h2)
theorem pw_pz (x : FZ) (n : Nat) : pwZ ((x.val : Nat) : Int) (n : Int) = (pz x n).val := by
  unfold pwZ
  rw [if_neg (by omega), rsZ_nat, Nat.mod_eq_of_lt x.isLt, Int.toNat_natCast, ← nz_val, pz_nz, nz_self]

end Go.Proofs.YtlcnepnappfjeaaDoor

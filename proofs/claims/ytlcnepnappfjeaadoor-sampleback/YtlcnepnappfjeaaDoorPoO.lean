/- A polynomial that comes in by value: what it is. -/
import Derived.Test.YtlcnepnappfjeaaDoorRef11a
import Derived.Test.YtlcnepnappfjeaaDoorBase
namespace Go.Proofs.YtlcnepnappfjeaaDoor
open Go.ChangeShapes Go.WideShapes Go.ChangeAt Go.RowKit
set_option linter.unusedSimpArgs false
set_option linter.unusedVariables false

theorem cellsInt11 : Tryd.prog.cellsOf 3 = 1 := by kernel_rfl
/-- Two polynomials that are the same, compared. -/
theorem eq_po {f g : Nat → FZ} (h : ∀ k, k < 256 → f k = g k) (w : World) : (Op.equalIn 10000 24 (poV f) (poV g)).run Tryd.prog w = .ok true w := by
  have h1 := run_equal_row w (k := .i64) 9998 Tryd.underlying24 Tryd.underlying3 cellsInt11 (gI (fzF f)) (gI (fzF g)) (gI_length _) (gI_length _)
  rw [h1, fz_congr h]
  simp

theorem po_open {H : Type} {enc : TypeId × Value → H} {P : Program} {w : World} {base b0 : Nat} {spare : Nat → Bool} {held : Bool} {r : Reach} {t e : TypeId} {v : Value} {d : DataW H} {p : List MemPlace}
    (ht : P.underlying t = some (.array 256 e)) (he : P.underlying e = some (.int .i64)) (ce : P.cellsOf e = 1) (ct : P.cellsOf t = 256) (hv : Value.okWide P w r b0 t v) (h : DataW.Trod enc P w base spare held t v d p) :
    ∃ F : Nat → Int, Po F ∧ v = .agg ((gI F).map (Value.int .i64)).toArray := by
  obtain ⟨zs, hl, hv, hw⟩ := arr_ints ht he ce ct hv h
  refine ⟨fun k => zs.getD k 0, ⟨fun k => ?_⟩, by rw [← gI_of hl]; exact hv⟩
  by_cases hk : k < zs.length
  · have h3 := bounds_i64 (hw zs[k] (List.getElem_mem hk))
    simp only [List.getD_eq_getElem?_getD, List.getElem?_eq_getElem hk, Option.getD_some]
    exact ⟨by omega, by omega⟩
  · simp only [List.getD_eq_getElem?_getD, List.getElem?_eq_none (show zs.length ≤ k by omega), Option.getD_none]
    exact ⟨by omega, by omega⟩
end Go.Proofs.YtlcnepnappfjeaaDoor

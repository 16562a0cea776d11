/- Arrays of numbers by value, compared: they are equal just if their numbers are. No program's text is named. -/
import Derived.Test.YtbladcgdbhogcabDoorArr2
import Derived.ChangeKeysEq
import Derived.Laws.StructEq
namespace Go.Proofs.YtbladcgdbhogcabDoor
set_option linter.unusedSimpArgs false
open Go.ChangeShapes Go.WideShapes Go.ChangeAt Go.RowKit
set_option linter.unusedVariables false

theorem run_eqItems_row {P : Program} (w : World) {k : IntKind} {e : TypeId} (d : Nat) (he : P.underlying e = some (.int k)) (l1 l2 : List Int) (n : Nat) (h1 : l1.length = n) (h2 : l2.length = n) :
    ∀ is : List Nat, (∀ i ∈ is, i < n) → (Op.eqItems (d + 1) e 1 (l1.map (Value.int k)).toArray (l2.map (Value.int k)).toArray is).run P w = .ok (is.all fun i => l1.getD i 0 == l2.getD i 0) w
  | [], _ => by simp [Op.eqItems]
  | i :: is, h => by
    have hi := h i (by simp)
    have hp : P.plainKey e = true := by simp [Program.plainKey, he]
    have e1 : ((l1.map (Value.int k)).toArray)[i * 1]? = some (.int k (l1.getD i 0)) := by simp [h1, hi]
    have e2 : ((l2.map (Value.int k)).toArray)[i * 1]? = some (.int k (l2.getD i 0)) := by simp [h2, hi]
    have ih := run_eqItems_row w d he l1 l2 n h1 h2 is (fun j hj => h j (by simp [hj]))
    simp only [Op.eqItems, Sem.run_bind, run_part_plain w hp e1, run_part_plain w hp e2, Result.andThen_ok, run_equalIn_int w d e k k _ _ he, List.all_cons]
    by_cases hq : l1.getD i 0 = l2.getD i 0
    · simp only [hq, BEq.rfl, Bool.true_and]
      simpa using ih
    · have hb : (l1.getD i 0 == l2.getD i 0) = false := by simpa using hq
      simp only [hb, Bool.false_and]
      simp
theorem all_eq (l1 l2 : List Int) (n : Nat) (h1 : l1.length = n) (h2 : l2.length = n) : ((List.range n).all fun i => l1.getD i 0 == l2.getD i 0) = decide (l1 = l2) := by
  by_cases h : l1 = l2
  · subst h
    simp
  · rw [decide_eq_false h, List.all_eq_false]
    refine Classical.byContradiction fun hc => h ?_
    refine List.ext_getElem (by omega) fun i a b => ?_
    refine Classical.byContradiction fun hne => hc ⟨i, List.mem_range.2 (by omega), ?_⟩
    simp [a, b, hne]
/-- Two arrays of numbers. -/
theorem run_equal_row {P : Program} (w : World) {k : IntKind} {t e : TypeId} {n : Nat} (d : Nat) (ht : P.underlying t = some (.array n e)) (he : P.underlying e = some (.int k)) (hc : P.cellsOf e = 1) (l1 l2 : List Int) (h1 : l1.length = n) (h2 : l2.length = n) :
    (Op.equalIn (d + 2) t (.agg (l1.map (Value.int k)).toArray) (.agg (l2.map (Value.int k)).toArray)).run P w = .ok (decide (l1 = l2)) w := by
  obtain ⟨i, hi⟩ := info_of_underlying he
  rw [run_equalIn_array w (d + 1) _ _ ht hi, hc, run_eqItems_row w d he l1 l2 n h1 h2 _ (fun i hi => List.mem_range.1 hi), all_eq l1 l2 n h1 h2]
end Go.Proofs.YtbladcgdbhogcabDoor

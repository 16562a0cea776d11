/- A listed table that is an array of arrays of numbers: what its cells hold. No program's text is named. -/
import Derived.Lib.LaidTab
import Derived.OpenShut
namespace Go.Proofs.YtenljbljaffehaaDoor
set_option linter.unusedVariables false

theorem cells_of_tab2 {H : Type} {enc : TypeId × Value → H} {P : Program} {w : World} {base : Nat} {sp : Nat → Bool} {held : Bool} {fuel : Nat} {t e1 e : TypeId} {n m : Nat} {k : IntKind} {cs : List Value} {rows : List (List Int)} {p : List MemPlace}
    (ht : P.underlying t = some (.array n e1)) (h1 : P.underlying e1 = some (.array m e)) (he : P.underlying e = some (.int k)) (hce : P.cellsOf e = 1) (hc1 : P.cellsOf e1 = m)
    (h : DataW.trod enc P w base sp held fuel t cs = some (.agg (rows.map (Lib.tabData k)), p)) (i j : Nat) (hi : i < rows.length) (hj : j < (rows.getD i []).length) : cs[i * m + j]? = some (.int k ((rows.getD i []).getD j 0)) := by
  obtain ⟨xs, f', _, hx, _, hl, hr⟩ := DataW.trod_array ht h
  have hxs : rows.map (Lib.tabData k) = xs.map (·.1) := by
    have := congrArg Prod.fst hx
    simpa using this
  have hin : i < n := by
    have := congrArg List.length hxs
    simp at this
    omega
  have h2 := hr i hin
  rw [hc1] at h2
  have hxi : xs[i]? = some xs[i] := List.getElem?_eq_getElem (by omega)
  rw [hxi] at h2
  have h3 : xs[i].1 = Lib.tabData k (rows.getD i []) := by
    have := congrArg (·[i]?) hxs
    simp only [List.getElem?_map, hxi, Option.map_some] at this
    rw [List.getElem?_eq_getElem hi, Option.map_some, Option.some.injEq] at this
    rw [← this]
    simp [hi]
  have h4 : DataW.trod enc P w base sp held f' e1 ((cs.drop (i * m)).take m) = some (Lib.tabData k (rows.getD i []), xs[i].2) := by
    rw [h2, ← h3]
  have h5 := Lib.cells_of_tab h1 he hce hc1 h4
  have h6 := congrArg (·[j]?) h5
  simp only [List.getElem?_map, List.getElem?_eq_getElem hj, Option.map_some] at h6
  have hjm : j < m := by
    rcases Nat.lt_or_ge j m with h | h
    · exact h
    · rw [List.getElem?_eq_none (by rw [List.length_take]; omega)] at h6
      cases h6
  rw [List.getElem?_take, if_pos hjm, List.getElem?_drop] at h6
  rw [h6]
  clear h2 h3 h4 h5 h6
  generalize rows.getD i [] = r at hj ⊢
  simp [hj]
theorem tab2_of_head {P : Program} {W : World} {name : String} {k : IntKind} {rows : List (List Int)} {rest : List (String × DataW Unit)} {g : Nat} {t e1 e : TypeId} {n m : Nat}
    (hg : P.globalNamed name = some g) (hty : (P.globals[g]?).map (·.type) = some t) (ht : P.underlying t = some (.array n e1)) (h1 : P.underlying e1 = some (.array m e)) (he : P.underlying e = some (.int k)) (hce : P.cellsOf e = 1) (hc1 : P.cellsOf e1 = m)
    (h : laidMet P ((name, .agg (rows.map (Lib.tabData k))) :: rest) W) (i j : Nat) (hi : i < rows.length) (hj : j < (rows.getD i []).length) : W.cell? ⟨g, i * m + j, none⟩ = some (.int k ((rows.getD i []).getD j 0)) := by
  obtain ⟨ps, ⟨g', t', cs, fuel, p, q, hg', ht', hvar, hd, _, _⟩, _⟩ := h
  obtain rfl := Option.some.inj (hg.symm.trans hg')
  obtain rfl := Option.some.inj (hty.symm.trans ht')
  rw [World.var?_cell hg hvar]
  have := cells_of_tab2 ht h1 he hce hc1 hd i j hi hj
  simpa using this
end Go.Proofs.YtenljbljaffehaaDoor

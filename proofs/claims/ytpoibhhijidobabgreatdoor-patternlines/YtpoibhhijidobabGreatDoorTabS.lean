/- A listed table that is an array of texts: what its cells hold. No program's text is named. -/
import Derived.Lib.LaidTab
import Derived.OpenShut
namespace Go.Proofs.YtpoibhhijidobabGreatDoor
set_option linter.unusedVariables false

theorem strs_of_head {P : Program} {W : World} {name : String} {zs : List (List UInt8)} {rest : List (String × DataW Unit)} {g : Nat} {t e : TypeId} {n : Nat}
    (hg : P.globalNamed name = some g) (hty : (P.globals[g]?).map (·.type) = some t) (ht : P.underlying t = some (.array n e)) (he : P.underlying e = some .string) (hce : P.cellsOf e = 1)
    (h : laidMet P ((name, .agg (zs.map fun l => .lit (.string l))) :: rest) W) (i : Nat) (hi : i < zs.length) : W.cell? ⟨g, i, none⟩ = some (.string ⟨(zs.getD i []).toArray⟩) := by
  obtain ⟨ps, ⟨g', t', cs, fuel, p, q, hg', ht', hvar, hd, _, _⟩, _⟩ := h
  obtain rfl := Option.some.inj (hg.symm.trans hg')
  obtain rfl := Option.some.inj (hty.symm.trans ht')
  rw [World.var?_cell hg hvar]
  obtain ⟨xs, f', _, hx, _, hl, hr⟩ := DataW.trod_array ht hd
  have hxs : zs.map (fun l => (DataW.lit (.string l) : DataW Unit)) = xs.map (·.1) := by
    have := congrArg Prod.fst hx
    simpa using this
  have hin : i < n := by
    have := congrArg List.length hxs
    simp at this
    omega
  have h2 := hr i hin
  rw [hce, Nat.mul_one] at h2
  have hxi : xs[i]? = some xs[i] := List.getElem?_eq_getElem (by omega)
  rw [hxi] at h2
  obtain ⟨s, hc, hs, _⟩ := DataW.trod_string he h2
  have h3 := congrArg (·[i]?) hxs
  simp only [List.getElem?_map, hxi, Option.map_some, List.getElem?_eq_getElem hi, hs, Option.some.injEq, DataW.lit.injEq, Lit.string.injEq] at h3
  have h4 := congrArg (·[0]?) hc
  simp only [List.getElem?_take, List.getElem?_drop] at h4
  have h5 : (zs.getD i []) = s.data.toList := by rw [← h3]; simp [hi]
  rw [h5]
  simpa using h4
end Go.Proofs.YtpoibhhijidobabGreatDoor
